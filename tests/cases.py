"""Rows at hand for every test of what is told of two rows or of one."""

from tests.oracle import all_minds, all_pairs, all_rows, shuffled, some_pairs, some_row, source_of

# Each with the kinds, the pairs, and two rows.
EDGES = [
    # A row of none at either argument, or at both.
    (1, [], [], []),
    (3, [(0, 1)], [], []),
    (3, [(0, 1)], [], [0]),
    (3, [(0, 1)], [2], []),
    (3, [(0, 1)], [], [0, 1, 2, 0]),
    (3, [(0, 1)], [0, 1, 2, 0], []),
    # One deed.
    (3, [(0, 1)], [0], [0]),
    (3, [(0, 1)], [0], [1]),
    (3, [(0, 1)], [0], [2]),
    (3, [(0, 1)], [2], [0, 2]),
    (3, [(0, 1)], [1], [0, 1]),
    # One kind, and the same deed again and again.
    (1, [], [0], [0, 0]),
    (1, [], [0, 0, 0, 0], [0, 0, 0, 0]),
    (1, [], [0, 0, 0, 0], [0, 0]),
    (3, [(0, 1), (1, 2)], [1, 1, 1], [1, 1, 1, 1, 1]),
    (3, [(0, 1), (1, 2)], [1, 1, 1], [2, 2, 2]),
    (3, [], [2, 2, 0, 2], [0, 2, 2, 2]),
    # No pairs.
    (4, [], [0, 1, 2, 3], [3, 2, 1, 0]),
    (4, [], [0, 1, 2, 3], [3, 2]),
    (4, [], [1, 1, 3], [3, 0, 1]),
    # All kinds minding each other.
    (4, all_pairs(4), [0, 1, 2, 3], [0, 1, 2, 3]),
    (4, all_pairs(4), [0, 1, 2, 3], [0, 1, 3, 2]),
    (4, all_pairs(4), [0, 1], [0, 1, 2, 3]),
    (4, all_pairs(4), [0, 1, 2, 3], [0, 1]),
    (4, all_pairs(4), [0, 1, 2], [1, 0, 2]),
    # Two rows alike.
    (4, [(0, 1), (2, 3)], [0, 2, 1, 3, 0], [0, 2, 1, 3, 0]),
    (4, [(0, 1), (2, 3)], [0, 2, 1, 3, 0], [2, 0, 3, 1, 0]),
    # The one a beginning of the other.
    (4, [(0, 1), (2, 3)], [2, 0], [0, 2, 1, 3, 0]),
    (4, [(0, 1), (2, 3)], [2, 3], [0, 1, 0, 2, 3]),
    (4, [(0, 1), (2, 3)], [0, 2, 1, 3, 0], [2, 0]),
    (4, [(0, 1), (2, 3)], [0, 1], [2, 0, 3]),
    # Rows of different lengths, and of other kinds.
    (4, [(0, 1), (2, 3)], [0, 1, 0, 1], [1, 0, 1]),
    (4, [(0, 1), (2, 3)], [0, 1, 0, 1], [2, 3]),
    (4, [(0, 1), (1, 2), (2, 3)], [0, 3], [1, 2]),
    (4, [(0, 1), (1, 2), (2, 3)], [0, 2], [3, 1]),
    # Two of three kinds that don't mind each other, with one between that both mind.
    (3, [(0, 1), (1, 2)], [0, 1, 2], [2, 1, 0]),
    (3, [(0, 1), (1, 2)], [0, 2, 1], [2, 0, 1]),
    # As many of each kind, and only the turn of two deeds differs.
    (3, [(0, 2)], [1, 0, 1, 2], [1, 2, 1, 0]),
    (5, [(0, 1), (1, 2), (2, 3), (3, 4), (0, 4)], [0, 1, 2, 3, 4], [4, 0, 1, 2, 3]),
]


def small_cases():
    """Every two rows of up to three deeds, for all that up to three kinds can mind."""
    for kinds, longest in ((1, 4), (2, 4), (3, 3)):
        rows = all_rows(kinds, longest)
        for pairs in all_minds(kinds):
            for one in rows:
                for other in rows:
                    yield kinds, pairs, one, other


def middling_cases():
    """Rows of up to six deeds, many of them the same doing, or nearly, or with a beginning of both."""
    source = source_of(5)
    for step in range(250):
        kinds = source.randrange(2, 6)
        pairs = some_pairs(source, kinds)
        start = some_row(source, kinds, source.randrange(2, 5))
        one = start + some_row(source, kinds, source.randrange(0, 3))
        other = shuffled(source, pairs, start, 12) + some_row(source, kinds, source.randrange(0, 3))
        for first, second in ((one, other), (one, shuffled(source, pairs, one, 30)), (start, other), (other, start)):
            yield kinds, pairs, first, second


def small_rows():
    """Every row of up to five deeds, for all that up to three kinds can mind."""
    for kinds, longest in ((1, 6), (2, 6), (3, 5)):
        for pairs in all_minds(kinds):
            for row in all_rows(kinds, longest):
                yield kinds, pairs, row


def middling_rows():
    for kinds, pairs, one, other in middling_cases():
        yield kinds, pairs, one + other[:1]


def two_row_cases():
    yield from EDGES
    yield from small_cases()
    yield from middling_cases()


def one_row_cases():
    for kinds, pairs, one, other in EDGES:
        yield kinds, pairs, one
        yield kinds, pairs, other
    yield from small_rows()
    yield from middling_rows()


def long_case(number, kinds, length):
    """Pairs, a long row, and one that is the same doing."""
    source = source_of(number)
    pairs = some_pairs(source, kinds)
    row = some_row(source, kinds, length)
    return pairs, row, shuffled(source, pairs, row, 20 * length)
