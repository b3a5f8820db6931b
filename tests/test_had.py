import inspect
import itertools
import unittest

from jostle.errors import BadRow, Minding
from jostle.minds import Minds, exchanged, had
from tests.refusals import RefusingCase, wrong_kinds, wrong_lists


def some():
    """Four kinds: 0 and 1 mind each other, 1 and 2 do, 3 minds itself alone."""
    return Minds(4, [(0, 1), (1, 2)])


class Had(unittest.TestCase):
    def test_the_arguments_are_called_as_the_interface_says(self):
        self.assertEqual(list(inspect.signature(had).parameters), ["minds", "row", "one", "other"])

    def test_two_kinds(self):
        row = [3, 1, 0, 2, 1, 0, 0, 3]
        self.assertEqual(had(some(), row, 0, 1), [1, 0, 1, 0, 0])
        self.assertEqual(had(some(), row, 1, 2), [1, 2, 1])

    def test_either_kind_may_be_named_first(self):
        row = [3, 1, 0, 2, 1, 0, 0, 3]
        self.assertEqual(had(some(), row, 1, 0), [1, 0, 1, 0, 0])
        self.assertEqual(had(some(), row, 2, 1), [1, 2, 1])

    def test_one_kind_alone(self):
        row = [3, 1, 0, 2, 1, 0, 0, 3]
        self.assertEqual(had(some(), row, 0, 0), [0, 0, 0])
        self.assertEqual(had(some(), row, 3, 3), [3, 3])
        self.assertEqual(had(Minds(1, []), [0, 0], 0, 0), [0, 0])

    def test_all_of_a_row(self):
        self.assertEqual(had(some(), [1, 0, 0, 1], 0, 1), [1, 0, 0, 1])

    def test_only_one_of_two_is_there(self):
        self.assertEqual(had(some(), [3, 0, 2, 0], 0, 1), [0, 0])
        self.assertEqual(had(some(), [3, 1, 2, 1], 0, 1), [1, 1])

    def test_none_is_there(self):
        self.assertEqual(had(some(), [3, 2, 3], 0, 1), [])
        self.assertEqual(had(some(), [3, 2, 3], 1, 1), [])

    def test_a_row_of_none_and_of_one(self):
        self.assertEqual(had(some(), [], 0, 1), [])
        self.assertEqual(had(some(), [], 3, 3), [])
        self.assertEqual(had(some(), [1], 0, 1), [1])
        self.assertEqual(had(some(), [2], 0, 1), [])

    def test_an_exchange_does_not_change_what_a_row_has(self):
        minds = some()
        both = [(0, 0), (1, 1), (2, 2), (3, 3), (0, 1), (1, 2)]
        for row in itertools.product(range(4), repeat=4):
            for place in range(3):
                try:
                    moved = exchanged(minds, list(row), [place])
                except Minding:
                    continue
                for one, other in both:
                    with self.subTest(row=row, place=place, one=one, other=other):
                        self.assertEqual(had(minds, moved, one, other), had(minds, list(row), one, other))


class NothingChangedOrKept(unittest.TestCase):
    def test_a_row_handed_in_stays_as_it_is(self):
        row = [0, 3, 1, 0]
        minds = some()
        had(minds, row, 0, 1)
        self.assertEqual(row, [0, 3, 1, 0])
        self.assertEqual((minds.kinds, minds.pairs()), (4, [(0, 1), (1, 2)]))

    def test_what_is_told_is_new(self):
        minds = some()
        for row in ([0, 1, 0], [0], []):
            before = list(row)
            told = had(minds, row, 0, 1)
            told.append(1)
            self.assertEqual(row, before)
            self.assertEqual(had(minds, row, 0, 1), before)

    def test_a_row_handed_in_may_be_changed_afterwards(self):
        row = [0, 1]
        told = had(some(), row, 0, 1)
        row.clear()
        self.assertEqual(told, [0, 1])

    def test_what_is_told_is_a_list(self):
        self.assertIs(type(had(some(), [0, 3], 0, 1)), list)


class Refused(RefusingCase):
    def test_wrong_rows(self):
        for row in wrong_lists(4, 0):
            self.assert_refused(BadRow, had, some(), row, 0, 1)
            self.assert_refused(BadRow, had, some(), row, 0, 0)

    def test_either_kind_wrong(self):
        for value in wrong_kinds(4):
            for row in ([], [0, 1]):
                self.assert_refused(BadRow, had, some(), row, value, 0)
                self.assert_refused(BadRow, had, some(), row, 0, value)
                self.assert_refused(BadRow, had, some(), row, value, value)

    def test_true_and_false_are_no_kinds(self):
        for one, other in ((False, False), (True, True), (0, True), (False, 1), (True, 2)):
            self.assert_refused(BadRow, had, some(), [0, 1], one, other)

    def test_two_kinds_that_do_not_mind_each_other(self):
        for one, other in ((0, 2), (2, 0), (0, 3), (3, 0), (1, 3), (3, 2)):
            for row in ([], [one], [one, other], [1, 1]):
                self.assert_refused(BadRow, had, some(), row, one, other)

    def test_row_and_kinds_wrong_at_once(self):
        for row in (None, (0,), [4], [True]):
            for one, other in ((0, 2), (None, 0), (0, -1), (True, True)):
                self.assert_refused(BadRow, had, some(), row, one, other)


if __name__ == "__main__":
    unittest.main()
