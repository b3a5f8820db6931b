"""What is told of rows, and whether it is as told.

The fields of an answer may be changed behind its making, so whatever stands
in them is looked at each time anew before anything is done with it.
"""

from jostle.checks import is_list_below, is_number_below, is_row
from jostle.errors import DeedError
from jostle.minds import counts_of, exchanged, first_kinds, had, same_doing


class Answer:
    pass


class Same(Answer):
    def __init__(self, places):
        self.places = copied(places)

    def shows(self, minds, row, another):
        try:
            return exchanged(minds, row, self.places) == another
        except DeedError:
            return False


class Unlike(Answer):
    def __init__(self, one, other):
        self.one = one
        self.other = other

    def shows(self, minds, row, another):
        if not are_two_kinds(minds, self.one, self.other):
            return False
        return had(minds, row, self.one, self.other) != had(minds, another, self.one, self.other)


class Rest(Answer):
    def __init__(self, row):
        self.row = copied(row)

    def shows(self, minds, row, another):
        return is_row(minds, self.row) and same_doing(minds, row + self.row, another)


class Held(Answer):
    def __init__(self, one, other):
        self.one = one
        self.other = other

    def shows(self, minds, row, another):
        if not are_two_kinds(minds, self.one, self.other):
            return False
        has = had(minds, row, self.one, self.other)
        return not is_first_part(has, had(minds, another, self.one, self.other))


class Both(Answer):
    def __init__(self, whole, first, second):
        self.whole = copied(whole)
        self.first = copied(first)
        self.second = copied(second)

    def shows(self, minds, row, another):
        if not are_rows(minds, [self.whole, self.first, self.second]):
            return False
        if not same_doing(minds, row + self.first, self.whole):
            return False
        if not same_doing(minds, another + self.second, self.whole):
            return False
        return has_no_more(self.whole, row, another)


class Odds(Answer):
    def __init__(self, one, other):
        self.one = one
        self.other = other

    def shows(self, minds, row, another):
        if not are_two_kinds(minds, self.one, self.other):
            return False
        has = had(minds, row, self.one, self.other)
        others = had(minds, another, self.one, self.other)
        return not is_first_part(has, others) and not is_first_part(others, has)


class Shared(Answer):
    def __init__(self, row, first, second):
        self.row = copied(row)
        self.first = copied(first)
        self.second = copied(second)

    def shows(self, minds, row, another):
        if not are_rows(minds, [self.row, self.first, self.second]):
            return False
        if not same_doing(minds, self.row + self.first, row):
            return False
        if not same_doing(minds, self.row + self.second, another):
            return False
        return len(set(first_kinds(minds, self.first)) & set(first_kinds(minds, self.second))) == 0


class Rounds(Answer):
    def __init__(self, rounds, places):
        self.rounds = copied(rounds)
        self.places = copied(places)

    def shows(self, minds, row):
        if not are_rounds(minds, self.rounds) or not is_chain(minds, row, self.places):
            return False
        return len(self.rounds) == len(self.places) and same_doing(minds, joined(self.rounds), row)


# Also the lists within a list, or a round handed in would be kept.
def copied(value):
    if not isinstance(value, list):
        return value
    return [list(part) if isinstance(part, list) else part for part in value]


# Two kinds that mind each other, or one kind twice, the lesser first.
def are_two_kinds(minds, one, other):
    if not is_number_below(one, minds.kinds) or not is_number_below(other, minds.kinds):
        return False
    return one <= other and minds.mind(one, other)


def are_rows(minds, values):
    return all([is_row(minds, value) for value in values])


def is_first_part(part, row):
    return row[:len(part)] == part


def has_no_more(whole, one, other):
    ones = counts_of(one)
    others = counts_of(other)
    for kind, count in counts_of(whole).items():
        if count > max(ones.get(kind, 0), others.get(kind, 0)):
            return False
    return True


def is_rising(numbers):
    return all([ahead < behind for ahead, behind in zip(numbers, numbers[1:])])


def is_round(minds, value):
    if not is_row(minds, value) or len(value) == 0 or not is_rising(value):
        return False
    ahead = {}
    for kind in value:
        if any([near in ahead for near in minds.minded(kind)]):
            return False
        ahead[kind] = True
    return True


def are_rounds(minds, values):
    return isinstance(values, list) and all([is_round(minds, value) for value in values])


# Places, rising, at each of which the deed minds the one at the place ahead.
def is_chain(minds, row, places):
    if not is_list_below(places, len(row)) or not is_rising(places):
        return False
    return all([minds.mind(row[ahead], row[behind]) for ahead, behind in zip(places, places[1:])])


def joined(rows):
    whole = []
    for row in rows:
        whole.extend(row)
    return whole
