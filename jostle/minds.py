"""Which kinds mind each other, and what follows of it for rows."""

from jostle.checks import check_kind, check_kinds, check_pair, check_places, check_row
from jostle.errors import BadMinds, BadRow, Minding


class Minds:
    def __init__(self, kinds, pairs):
        check_kinds(kinds)
        self.kinds = kinds
        self.paired = pairs_kept(kinds, pairs)
        self.nearby = kinds_nearby(self.paired)

    def pairs(self):
        return list(self.paired)

    def mind(self, one, other):
        check_kind(self, one)
        check_kind(self, other)
        return one == other or (min(one, other), max(one, other)) in self.paired

    # All kinds that a kind minds, itself too, so that no walk over rows has to try kinds that it doesn't mind.
    def minded(self, kind):
        near = dict(self.nearby.get(kind, {}))
        near[kind] = True
        return near


# A dict, so that asking stays quick with many pairs; it keeps their order for pairs().
def pairs_kept(kinds, pairs):
    if not isinstance(pairs, list):
        raise BadMinds("pairs must be a list")
    paired = {}
    for pair in pairs:
        check_pair(pair, kinds)
        if pair in paired:
            raise BadMinds("no two pairs may be alike")
        paired[(pair[0], pair[1])] = True
    return paired


def kinds_nearby(paired):
    nearby = {}
    for pair in paired:
        near_first = nearby.setdefault(pair[0], {})
        near_first[pair[1]] = True
        near_second = nearby.setdefault(pair[1], {})
        near_second[pair[0]] = True
    return nearby


def exchanged(minds, row, places):
    check_row(minds, row)
    check_places(row, places)
    moved = list(row)
    for at, place in enumerate(places):
        ahead = moved[place]
        behind = moved[place + 1]
        if minds.mind(ahead, behind):
            raise Minding(at)
        moved[place] = behind
        moved[place + 1] = ahead
    return moved


def had(minds, row, one, other):
    check_row(minds, row)
    if not minds.mind(one, other):
        raise BadRow("the two kinds must mind each other")
    return [kind for kind in row if kind == one or kind == other]


def may_be_first(minds, row, kind):
    near = minds.minded(kind)
    for deed in row:
        # A kind minds itself, so its own first deed is found here too.
        if deed in near:
            return deed == kind
    return False


def first_kinds(minds, row):
    return [kind for kind in sorted(set(row)) if may_be_first(minds, row, kind)]


def counts_of(row):
    counts = {}
    for kind in row:
        counts[kind] = counts.get(kind, 0) + 1
    return counts


# Falling, so that the place of a kind's foremost deed is the one to be popped.
def places_falling(row):
    places = {}
    for place in range(len(row) - 1, -1, -1):
        falling = places.setdefault(row[place], [])
        falling.append(place)
    return places


# For rows with as many deeds of each kind: then the deeds of one kind answer each other in their turn,
# and two kinds are found as soon as a deed of the one has overtaken a deed of the other.
def turned_kinds(minds, one, other):
    waiting = places_falling(other)
    latest = {}
    for kind in one:
        place = waiting[kind].pop()
        for near in minds.minded(kind):
            if latest.get(near, -1) > place:
                return (min(near, kind), max(near, kind))
        latest[kind] = place
    return None


# Two kinds that mind each other, or one kind twice, of which the rows don't have the same. None if there
# are none: then the rows are the same doing.
def unlike_kinds(minds, one, other):
    ones = counts_of(one)
    others = counts_of(other)
    for kind in one + other:
        if ones.get(kind, 0) != others.get(kind, 0):
            return (kind, kind)
    return turned_kinds(minds, one, other)


def same_doing(minds, one, other):
    return unlike_kinds(minds, one, other) is None
