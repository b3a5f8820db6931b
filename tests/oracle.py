"""The document's points, said once more without the program: exchanges done one by one, and all rows that are
the same doing searched through. Rows, fields and pairs are lists as the program takes them."""

import functools
import itertools
import random


def all_pairs(kinds):
    return [(one, other) for one in range(kinds) for other in range(one + 1, kinds)]


def all_minds(kinds):
    """Every list of pairs for so many kinds."""
    pairs = all_pairs(kinds)
    found = []
    for count in range(len(pairs) + 1):
        found.extend(list(chosen) for chosen in itertools.combinations(pairs, count))
    return found


def all_rows(kinds, longest):
    """Every row of these kinds up to a length, those of none and of one too."""
    found = []
    for length in range(longest + 1):
        found.extend(list(row) for row in itertools.product(range(kinds), repeat=length))
    return found


def minding(pairs, one, other):
    return one == other or (one, other) in pairs or (other, one) in pairs


def moved(pairs, row, places):
    """The row behind exchanges, None where one can't be done."""
    row = list(row)
    for place in places:
        if place not in range(len(row) - 1) or minding(pairs, row[place], row[place + 1]):
            return None
        row[place:place + 2] = [row[place + 1], row[place]]
    return row


@functools.lru_cache(maxsize=None)
def searched(pairs, row):
    found = {row}
    waiting = [row]
    while waiting:
        from_here = waiting.pop()
        for place in range(len(row) - 1):
            there = moved(pairs, from_here, [place])
            if there is not None and tuple(there) not in found:
                found.add(tuple(there))
                waiting.append(tuple(there))
    return frozenset(found)


def doings(pairs, row):
    """All rows (as tuples) that are the same doing as a row."""
    return searched(tuple(pairs), tuple(row))


def same(pairs, one, other):
    return tuple(other) in doings(pairs, one)


def has(row, one, other):
    return [kind for kind in row if kind in (one, other)]


def first_part(part, row):
    return len(part) <= len(row) and all(part[place] == row[place] for place in range(len(part)))


def two_kinds(kinds, pairs):
    """All that Unlike, Held and Odds may name."""
    return list(pairs) + [(kind, kind) for kind in range(kinds)]


def is_row(kinds, row):
    return all(kind in range(kinds) for kind in row)


def starts(pairs, row):
    """The kinds that may be first: those that stand first in a row that is the same doing."""
    return {found[0] for found in doings(pairs, row) if found}


# Whether an answer with these fields is as the document tells. The first two arguments are those of Minds.

def same_holds(kinds, pairs, one, other, places):
    return moved(pairs, one, places) == other


def unlike_holds(kinds, pairs, one, other, least, most):
    return (least, most) in two_kinds(kinds, pairs) and has(one, least, most) != has(other, least, most)


def rest_holds(kinds, pairs, one, other, row):
    return is_row(kinds, row) and same(pairs, one + row, other)


def held_holds(kinds, pairs, one, other, least, most):
    if (least, most) not in two_kinds(kinds, pairs):
        return False
    return not first_part(has(one, least, most), has(other, least, most))


def both_holds(kinds, pairs, one, other, whole, first, second):
    if not (is_row(kinds, whole) and is_row(kinds, first) and is_row(kinds, second)):
        return False
    if not (same(pairs, one + first, whole) and same(pairs, other + second, whole)):
        return False
    return all(whole.count(kind) <= max(one.count(kind), other.count(kind)) for kind in range(kinds))


def odds_holds(kinds, pairs, one, other, least, most):
    if (least, most) not in two_kinds(kinds, pairs):
        return False
    ones = has(one, least, most)
    others = has(other, least, most)
    return not first_part(ones, others) and not first_part(others, ones)


def shared_holds(kinds, pairs, one, other, row, first, second):
    if not (is_row(kinds, row) and is_row(kinds, first) and is_row(kinds, second)):
        return False
    if not (same(pairs, row + first, one) and same(pairs, row + second, other)):
        return False
    return not starts(pairs, first) & starts(pairs, second)


def rounds_hold(kinds, pairs, row, rounds, places):
    for deeds in rounds:
        if not deeds or not is_row(kinds, deeds) or sorted(set(deeds)) != deeds:
            return False
        if any(minding(pairs, one, other) for one, other in itertools.combinations(deeds, 2)):
            return False
    if not same(pairs, [kind for deeds in rounds for kind in deeds], row):
        return False
    if len(places) != len(rounds) or not all(place in range(len(row)) for place in places):
        return False
    steps = [(places[at], places[at + 1]) for at in range(len(places) - 1)]
    return all(ahead < behind and minding(pairs, row[ahead], row[behind]) for ahead, behind in steps)


# Whether there is any such answer at all, for small rows.

def is_beginning(pairs, one, other):
    return any(list(found[:len(one)]) == one for found in doings(pairs, other))


def have_whole(kinds, pairs, one, other):
    deeds = []
    for kind in range(kinds):
        deeds.extend([kind] * max(one.count(kind), other.count(kind)))
    for whole in set(itertools.permutations(deeds)):
        if is_beginning(pairs, one, list(whole)) and is_beginning(pairs, other, list(whole)):
            return True
    return False


# Rows too long to be searched through: the same ones each time, as the source is made anew from a number.

def shuffled(source, pairs, row, times):
    """A row that is the same doing, by exchanges done at places as they come."""
    row = list(row)
    for step in range(times):
        there = moved(pairs, row, [source.randrange(len(row) - 1)])
        if there is not None:
            row = there
    return row


def some_pairs(source, kinds):
    return [pair for pair in all_pairs(kinds) if source.random() < 0.4]


def some_row(source, kinds, length):
    return [source.randrange(kinds) for deed in range(length)]


def source_of(number):
    return random.Random(number)


def same_by_parts(kinds, pairs, one, other):
    """For long rows: whether they have the same of all two kinds."""
    return all(has(one, least, most) == has(other, least, most) for least, most in two_kinds(kinds, pairs))
