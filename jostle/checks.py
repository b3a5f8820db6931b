"""Whether what is handed in is what it has to be.

No refusal shows the value that it refuses: of some values, such as very long
numbers, Python makes no text, and then another error would come out.
"""

from jostle.errors import BadMinds, BadPlaces, BadRow


# To Python True and False are whole numbers too; here they are none.
def is_number(value):
    return isinstance(value, int) and not isinstance(value, bool)


def is_number_below(value, bound):
    return is_number(value) and 0 <= value < bound


def is_list_below(values, bound):
    if not isinstance(values, list):
        return False
    for value in values:
        if not is_number_below(value, bound):
            return False
    return True


def is_row(minds, value):
    return is_list_below(value, minds.kinds)


def is_pair(value, kinds):
    if not isinstance(value, tuple) or len(value) != 2:
        return False
    if not is_number_below(value[0], kinds) or not is_number_below(value[1], kinds):
        return False
    return value[0] < value[1]


def check_kinds(kinds):
    if not is_number(kinds) or kinds < 1:
        raise BadMinds("kinds must be a whole number, one or more")


def check_pair(pair, kinds):
    if not is_pair(pair, kinds):
        raise BadMinds("a pair must be a tuple of two different kinds, the lesser first")


def check_kind(minds, kind):
    if not is_number_below(kind, minds.kinds):
        raise BadRow("a kind must be a whole number from 0, below the count of kinds")


def check_row(minds, row):
    if not is_row(minds, row):
        raise BadRow("a row must be a list of kinds")


def check_places(row, places):
    # The last place has no next one, so nothing can be exchanged there.
    if not is_list_below(places, len(row) - 1):
        raise BadPlaces("places must be a list of places of the row that have a next one")
