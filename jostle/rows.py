"""What is told of two rows."""

from jostle.answers import Both, Held, Odds, Rest, Same, Shared, Unlike
from jostle.checks import check_row
from jostle.minds import counts_of, may_be_first, unlike_kinds


def alike(minds, one, other):
    check_row(minds, one)
    check_row(minds, other)
    kinds = unlike_kinds(minds, one, other)
    if kinds is not None:
        return Unlike(kinds[0], kinds[1])
    return Same(places_between(one, other))


# If there is any row that does behind the first, what the first lacks of the second does.
def begins(minds, one, other):
    check_row(minds, one)
    check_row(minds, other)
    rest = lacked(one, other)
    kinds = unlike_kinds(minds, one + rest, other)
    if kinds is not None:
        return Held(kinds[0], kinds[1])
    return Rest(rest)


# Each row with what it lacks behind has as many deeds of each kind as the row that has more. Where one row
# has the first part of what the other has of two kinds, these two wholes have the same of them; so kinds of
# which they don't are Odds.
def together(minds, one, other):
    check_row(minds, one)
    check_row(minds, other)
    first = lacked(one, other)
    second = lacked(other, one)
    kinds = unlike_kinds(minds, one + first, other + second)
    if kinds is not None:
        return Odds(kinds[0], kinds[1])
    return Both(one + first, first, second)


# One walk is enough: what is left out once can't be shared later, as what holds it back in the other row
# is itself either left out already or, standing behind it in the first row and minding it, will be.
def common(minds, one, other):
    check_row(minds, one)
    check_row(minds, other)
    row = []
    first = []
    second = list(other)
    barred = {}
    for kind in one:
        if kind not in barred and may_be_first(minds, second, kind):
            row.append(kind)
            second.remove(kind)
        else:
            first.append(kind)
            barred.update(minds.minded(kind))
    return Shared(row, first, second)


# Of rows that are the same doing: each deed of the second, in its turn, is brought ahead to its place.
def places_between(one, other):
    moved = list(one)
    places = []
    for place, kind in enumerate(other):
        found = moved.index(kind, place)
        moved.pop(found)
        moved.insert(place, kind)
        places.extend(list(range(found - 1, place - 1, -1)))
    return places


# The deeds of the second row, in their turn, but for as many of each kind as the first has.
def lacked(one, other):
    counts = counts_of(one)
    lacking = []
    for kind in other:
        if counts.get(kind, 0) > 0:
            counts[kind] = counts[kind] - 1
        else:
            lacking.append(kind)
    return lacking
