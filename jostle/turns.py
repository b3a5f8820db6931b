"""What is told of one row: which deeds may have their turn at once, and which first."""

from jostle.answers import Rounds
from jostle.checks import check_row
from jostle.minds import first_kinds


def firsts(minds, row):
    check_row(minds, row)
    return first_kinds(minds, row)


def rounds(minds, row):
    check_row(minds, row)
    depths = depths_of(minds, row)
    return Rounds(deeds_by_depth(row, depths), chain_of(minds, row, depths))


# A row is the least if no deed in it can be brought ahead of a greater one by exchanges of this deed alone. So
# each deed, in its turn, goes ahead of the foremost greater one that it can get ahead of. A lesser deed behind it
# can't get ahead of it then, or it could have got ahead of that greater one before.
def least(minds, row):
    check_row(minds, row)
    told = []
    for kind in row:
        told.insert(place_among(minds, told, kind), kind)
    return told


def place_among(minds, row, kind):
    near = minds.minded(kind)
    found = len(row)
    place = len(row)
    while place > 0 and row[place - 1] not in near:
        place = place - 1
        if row[place] > kind:
            found = place
    return found


# How many rounds must stand ahead of each deed. Of one kind the latest deed is the deepest so far.
def depths_of(minds, row):
    latest = {}
    depths = []
    for kind in row:
        depth = 1 + max([latest.get(near, -1) for near in minds.minded(kind)])
        latest[kind] = depth
        depths.append(depth)
    return depths


def deeds_by_depth(row, depths):
    deeds = [[] for depth in range(max(depths, default=-1) + 1)]
    for kind, depth in zip(row, depths):
        deeds[depth].append(kind)
    return [sorted(kinds) for kinds in deeds]


# Walked from behind: each deed but those of the first round minds one ahead of it that is of the round ahead.
def chain_of(minds, row, depths):
    places = []
    wanted = max(depths, default=-1)
    for place in range(len(row) - 1, -1, -1):
        if depths[place] == wanted and (len(places) == 0 or minds.mind(row[place], row[places[-1]])):
            places.append(place)
            wanted = wanted - 1
    places.reverse()
    return places
