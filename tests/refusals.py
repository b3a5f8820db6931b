"""What is to be refused, and a test case that can tell one refusal from another."""

import unittest


class RefusingCase(unittest.TestCase):
    def assert_refused(self, error, call, *handed):
        """The very class counts: a refusal under another one, or above it, won't do."""
        try:
            call(*handed)
        except Exception as caught:
            self.assertIs(caught.__class__, error, [item.__class__ for item in handed])
            return caught
        self.fail(f"{error.__name__} was not raised for {[item.__class__ for item in handed]}")
        return None


class Sulky:
    """Can't be compared, hashed, counted or shown."""

    def refuse(self, *others):
        raise RuntimeError("not to be asked")

    __eq__ = __lt__ = __le__ = __gt__ = __ge__ = refuse
    __hash__ = __repr__ = __str__ = __bool__ = __len__ = __iter__ = refuse
    __index__ = __int__ = __getitem__ = __contains__ = refuse


def looped():
    """A list that holds itself."""
    values = []
    values.append(values)
    return values


def no_numbers():
    """Values of every kind that are no whole numbers."""
    return [
        None, True, False, 0.0, 1.0, 0.5, float("nan"), float("inf"), 1j,
        "", "0", "1", "ab", b"", b"\x00", bytearray(b"\x01"),
        [], [0], [1], [[0]], (), (0,), (0, 1), {}, {0: 1}, {0}, frozenset([0]),
        range(1), iter([0]), object(), Sulky(), looped(), int, len, ValueError("0"),
    ]


def out_of_range(bound):
    """Numbers below 0, or of the bound and above; Python makes no text of the longest."""
    return [-1, -2, -bound, -bound - 1, -(10 ** 5000), bound, bound + 1, 2 ** 64 + bound, 10 ** 5000]


def wrong_kinds(bound):
    """Whatever is no kind, of so many kinds (and no place, of so many places)."""
    return no_numbers() + out_of_range(bound)


def no_lists():
    """Values of every kind that are no lists."""
    return [
        None, True, False, 0, 1, -1, 10 ** 5000, 0.0, float("nan"), 1j,
        "", "0", "01", b"", b"\x00", bytearray(b"\x00"),
        (), (0,), (0, 1), ((0, 1),), ([0],), {}, {0: 0}, {(0, 1): True}, set(), {0}, {(0, 1)},
        frozenset(), range(0), range(1), iter([]), iter([0]), object(), Sulky(), list, len, ValueError("0"),
    ]


def wrong_lists(bound, good):
    """Whatever is no list of numbers from 0 to below the bound; good is one of these numbers."""
    lists = no_lists()
    for value in wrong_kinds(bound):
        lists.extend([[value], [value, good], [good, value], [good, value, good]])
    lists.append(looped())
    return lists
