"""Which kinds mind each other, and what follows of it for one row."""

from jostle.checks import check_kind, check_kinds, check_pair, check_places, check_row
from jostle.errors import BadMinds, BadRow, Minding


class Minds:
    def __init__(self, kinds, pairs):
        check_kinds(kinds)
        self.kinds = kinds
        self.paired = pairs_kept(kinds, pairs)

    def pairs(self):
        return list(self.paired)

    def mind(self, one, other):
        check_kind(self, one)
        check_kind(self, other)
        return one == other or (min(one, other), max(one, other)) in self.paired


# A dict, so that asking stays quick with many pairs; it keeps their order for pairs().
def pairs_kept(kinds, pairs):
    if not isinstance(pairs, list):
        raise BadMinds("pairs must be a list")
    paired = {}
    for pair in pairs:
        check_pair(pair, kinds)
        if pair in paired:
            raise BadMinds("no two pairs may be alike")
        paired[(pair[0], pair[1])] = True
    return paired


def exchanged(minds, row, places):
    check_row(minds, row)
    check_places(row, places)
    moved = list(row)
    for at, place in enumerate(places):
        ahead = moved[place]
        behind = moved[place + 1]
        if minds.mind(ahead, behind):
            raise Minding(at)
        moved[place] = behind
        moved[place + 1] = ahead
    return moved


def had(minds, row, one, other):
    check_row(minds, row)
    if not minds.mind(one, other):
        raise BadRow("the two kinds must mind each other")
    return [kind for kind in row if kind == one or kind == other]
