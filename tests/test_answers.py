import inspect
import itertools
import unittest

from jostle.answers import Answer, Both, Held, Odds, Rest, Rounds, Same, Shared, Unlike
from jostle.minds import Minds
from tests.cases import EDGES
from tests.oracle import (
    all_minds, all_pairs, all_rows, both_holds, held_holds, odds_holds, rest_holds, rounds_hold, same_holds,
    shared_holds, unlike_holds,
)

HUGE = 10 ** 5000

# Each class with its fields, and two rows of some() of which an answer with these is right.
RIGHT = [
    (Same, ([1, 0],), [0, 1, 2], [2, 0, 1]),
    (Unlike, (0, 1), [0, 2, 1], [1, 2, 0]),
    (Rest, ([1, 2],), [2, 0], [0, 1, 2, 2]),
    (Held, (0, 1), [1, 2], [0, 2, 1]),
    (Both, ([0, 2, 1], [2], [1]), [0, 1], [2, 0]),
    (Odds, (0, 1), [0, 2], [2, 1]),
    (Shared, ([2, 0], [1], [0, 2]), [0, 1, 2], [0, 2, 0, 2]),
    (Rounds, ([[0, 2], [1]], [0, 1]), [0, 1, 2], None),
]


def some():
    """Three kinds, of which 0 and 1 mind each other."""
    return Minds(3, [(0, 1)])


def shown(answer, minds, one, other):
    if isinstance(answer, Rounds):
        return answer.shows(minds, one)
    return answer.shows(minds, one, other)


def fields_of(made):
    return list(inspect.signature(made).parameters)


class Classes(unittest.TestCase):
    def test_each_stands_straight_under_answer(self):
        for made, fields, one, other in RIGHT:
            self.assertEqual(made.__bases__, (Answer,))
        self.assertEqual(Answer.__bases__, (object,))

    def test_fields_are_called_as_the_interface_says(self):
        self.assertEqual(fields_of(Same), ["places"])
        self.assertEqual(fields_of(Rest), ["row"])
        self.assertEqual(fields_of(Both), ["whole", "first", "second"])
        self.assertEqual(fields_of(Shared), ["row", "first", "second"])
        self.assertEqual(fields_of(Rounds), ["rounds", "places"])
        for made in (Unlike, Held, Odds):
            self.assertEqual(fields_of(made), ["one", "other"])

    def test_shows_takes_what_the_interface_says(self):
        for made, fields, one, other in RIGHT:
            wanted = ["self", "minds", "row"] if made is Rounds else ["self", "minds", "row", "another"]
            self.assertEqual(list(inspect.signature(made.shows).parameters), wanted)

    def test_each_object_has_its_fields(self):
        for made, fields, one, other in RIGHT:
            answer = made(*fields)
            for name, value in zip(fields_of(made), fields):
                self.assertEqual(getattr(answer, name), value)
                self.assertIs(type(getattr(answer, name)), type(value))

    def test_fields_are_set_whatever_numbers_they_hold(self):
        self.assertEqual(Same([-1, 9]).places, [-1, 9])
        self.assertEqual((Unlike(7, -2).one, Unlike(7, -2).other), (7, -2))
        self.assertEqual(Rounds([[], [5, 5]], [3, -3]).rounds, [[], [5, 5]])
        self.assertEqual(Rounds([[], [5, 5]], [3, -3]).places, [3, -3])
        self.assertEqual(Rest([HUGE, -HUGE]).row, [HUGE, -HUGE])


class Copied(unittest.TestCase):
    def lists_of(self, made, fields):
        return [name for name, value in zip(fields_of(made), fields) if isinstance(value, list)]

    def test_a_list_handed_in_may_be_changed_afterwards(self):
        for made, fields, one, other in RIGHT:
            handed = [list(value) if isinstance(value, list) else value for value in fields]
            answer = made(*handed)
            for value in handed:
                if isinstance(value, list):
                    value.append(0)
            for name, value in zip(fields_of(made), fields):
                self.assertEqual(getattr(answer, name), value)
            self.assertIs(shown(answer, some(), one, other), True)

    def test_a_round_handed_in_may_be_changed_afterwards(self):
        deeds = [[0, 2], [1]]
        answer = Rounds(deeds, [0, 1])
        deeds[0].append(1)
        deeds[1].clear()
        self.assertEqual(answer.rounds, [[0, 2], [1]])
        self.assertIs(answer.shows(some(), [0, 1, 2]), True)

    def test_one_list_handed_in_as_several_fields(self):
        row = [0]
        answer = Both(row, row, row)
        answer.whole.append(1)
        self.assertEqual((answer.first, answer.second, row), ([0], [0], [0]))
        answer = Shared(row, row, row)
        answer.row.append(1)
        self.assertEqual((answer.first, answer.second, row), ([0], [0], [0]))
        answer = Rounds([row, row], row)
        answer.rounds[0].append(1)
        self.assertEqual((answer.rounds, answer.places, row), ([[0, 1], [0]], [0], [0]))

    def test_a_field_may_be_changed_without_a_change_of_what_was_handed_in(self):
        for made, fields, one, other in RIGHT:
            handed = [list(value) if isinstance(value, list) else value for value in fields]
            answer = made(*handed)
            for name in self.lists_of(made, fields):
                getattr(answer, name).append(0)
            self.assertEqual(handed, list(fields))
        deeds = [[0, 2], [1]]
        Rounds(deeds, [0, 1]).rounds[0].append(1)
        self.assertEqual(deeds, [[0, 2], [1]])

    def test_two_objects_of_one_list_keep_apart(self):
        places = [0]
        first = Same(places)
        second = Same(places)
        first.places.append(5)
        self.assertEqual((second.places, places), ([0], [0]))


class ShowsByHand(unittest.TestCase):
    def test_right_ones(self):
        for made, fields, one, other in RIGHT:
            with self.subTest(made=made.__name__):
                self.assertIs(shown(made(*fields), some(), one, other), True)

    def test_rows_stay_as_they_are(self):
        for made, fields, one, other in RIGHT:
            minds = some()
            rows = (list(one), None if other is None else list(other))
            answer = made(*fields)
            shown(answer, minds, rows[0], rows[1])
            self.assertEqual(rows, (one, other))
            self.assertEqual((minds.kinds, minds.pairs()), (3, [(0, 1)]))
            for name, value in zip(fields_of(made), fields):
                self.assertEqual(getattr(answer, name), value)

    def test_asked_twice(self):
        for made, fields, one, other in RIGHT:
            answer = made(*fields)
            self.assertIs(shown(answer, some(), one, other), True)
            self.assertIs(shown(answer, some(), one, other), True)

    def test_one_answer_of_several_rows(self):
        answer = Unlike(0, 1)
        self.assertIs(answer.shows(some(), [0, 1], [1, 0]), True)
        self.assertIs(answer.shows(some(), [0, 1], [0, 1]), False)
        self.assertIs(answer.shows(Minds(3, []), [0, 1], [1, 0]), False)

    def test_same(self):
        minds = some()
        self.assertIs(Same([]).shows(minds, [0, 1], [0, 1]), True)
        self.assertIs(Same([]).shows(minds, [], []), True)
        self.assertIs(Same([0, 0]).shows(minds, [0, 2], [0, 2]), True)
        self.assertIs(Same([]).shows(minds, [0, 2], [2, 0]), False)
        self.assertIs(Same([0]).shows(minds, [0, 1], [1, 0]), False)
        self.assertIs(Same([0]).shows(minds, [0, 0], [0, 0]), False)
        self.assertIs(Same([0]).shows(minds, [0, 2], [0, 2]), False)
        self.assertIs(Same([1]).shows(minds, [0, 2], [0, 2]), False)
        self.assertIs(Same([-1]).shows(minds, [0, 2], [2, 0]), False)

    def test_unlike_held_and_odds_of_what_are_no_such_kinds(self):
        minds = Minds(4, [(0, 1), (1, 2)])
        numbers = [-HUGE, -4, -1, 0, 1, 2, 3, 4, 5, HUGE]
        wanted = [(0, 0), (1, 1), (2, 2), (3, 3), (0, 1), (1, 2)]
        for one, other in itertools.product(numbers, repeat=2):
            told = (one, other) in wanted
            self.assertIs(Unlike(one, other).shows(minds, [0, 1, 2, 0, 1, 2], [2, 1, 3]), told)
            self.assertIs(Held(one, other).shows(minds, [0, 1, 2, 3, 0, 1, 2, 3], [2, 1, 3]), told)
            told = (one, other) in [(0, 1), (1, 2)]
            self.assertIs(Odds(one, other).shows(minds, [0, 1, 2], [2, 1, 0]), told)

    def test_held_where_the_second_has_more(self):
        minds = some()
        self.assertIs(Held(0, 0).shows(minds, [0], [0, 0]), False)
        self.assertIs(Held(0, 0).shows(minds, [0, 0], [0]), True)
        self.assertIs(Held(0, 0).shows(minds, [0], [0]), False)
        self.assertIs(Held(0, 1).shows(minds, [0, 1], [0, 1, 1]), False)
        self.assertIs(Held(0, 1).shows(minds, [0, 1, 1], [0, 1]), True)
        self.assertIs(Held(0, 1).shows(minds, [1], [0, 1]), True)

    def test_odds_where_one_has_the_first_part(self):
        minds = some()
        self.assertIs(Odds(0, 1).shows(minds, [0, 1], [0, 1, 1]), False)
        self.assertIs(Odds(0, 1).shows(minds, [0, 1, 1], [0, 1]), False)
        self.assertIs(Odds(0, 1).shows(minds, [0, 1], [0, 1]), False)
        self.assertIs(Odds(0, 1).shows(minds, [0, 1, 1], [0, 0]), True)
        self.assertIs(Odds(0, 0).shows(minds, [0, 0], [0]), False)

    def test_both_with_more_than_the_one_that_has_more(self):
        minds = some()
        self.assertIs(Both([0, 2], [2], [0]).shows(minds, [0], [2]), True)
        self.assertIs(Both([2, 0], [2], [0]).shows(minds, [0], [2]), True)
        self.assertIs(Both([0, 2, 2], [2, 2], [0, 2]).shows(minds, [0], [2]), False)
        self.assertIs(Both([0, 2, 1], [2, 1], [0, 1]).shows(minds, [0], [2]), False)
        self.assertIs(Both([0, 0], [0], [0]).shows(minds, [0], [0]), False)
        self.assertIs(Both([0], [], []).shows(minds, [0], [0]), True)

    def test_shared_that_could_be_longer(self):
        minds = some()
        self.assertIs(Shared([], [0], [0]).shows(minds, [0], [0]), False)
        self.assertIs(Shared([0], [], []).shows(minds, [0], [0]), True)
        self.assertIs(Shared([], [0, 2], [1, 2]).shows(minds, [0, 2], [1, 2]), False)
        self.assertIs(Shared([2], [0], [1]).shows(minds, [0, 2], [1, 2]), True)
        self.assertIs(Shared([2], [1], [0]).shows(minds, [0, 2], [1, 2]), False)

    def test_rounds(self):
        minds = some()
        self.assertIs(Rounds([], []).shows(minds, []), True)
        self.assertIs(Rounds([], []).shows(minds, [0]), False)
        self.assertIs(Rounds([[]], [0]).shows(minds, []), False)
        self.assertIs(Rounds([[0], []], [0, 1]).shows(minds, [0]), False)
        self.assertIs(Rounds([[0]], [0]).shows(minds, [0]), True)
        self.assertIs(Rounds([[0]], []).shows(minds, [0]), False)
        self.assertIs(Rounds([[0]], [1]).shows(minds, [0]), False)
        self.assertIs(Rounds([[0]], [-1]).shows(minds, [0]), False)
        self.assertIs(Rounds([[0, 2]], [0]).shows(minds, [2, 0]), True)
        self.assertIs(Rounds([[0, 2]], [1]).shows(minds, [2, 0]), True)
        self.assertIs(Rounds([[2, 0]], [0]).shows(minds, [2, 0]), False)
        self.assertIs(Rounds([[0], [2]], [0, 1]).shows(minds, [0, 2]), False)
        self.assertIs(Rounds([[0, 1]], [0]).shows(minds, [0, 1]), False)
        self.assertIs(Rounds([[0, 0]], [0]).shows(minds, [0, 0]), False)
        self.assertIs(Rounds([[0], [0]], [0, 1]).shows(minds, [0, 0]), True)
        self.assertIs(Rounds([[0], [0]], [0, 0]).shows(minds, [0, 0]), False)
        self.assertIs(Rounds([[0], [0]], [1, 0]).shows(minds, [0, 0]), False)
        self.assertIs(Rounds([[0], [1]], [0, 1]).shows(minds, [0, 1]), True)
        self.assertIs(Rounds([[1], [0]], [0, 1]).shows(minds, [0, 1]), False)

    def test_rounds_need_not_be_as_early_as_they_can(self):
        minds = some()
        self.assertIs(Rounds([[0, 2], [1]], [0, 1]).shows(minds, [0, 1, 2]), True)
        self.assertIs(Rounds([[0], [1, 2]], [0, 1]).shows(minds, [0, 1, 2]), True)
        self.assertIs(Rounds([[0], [1], [2]], [0, 1, 2]).shows(minds, [0, 1, 2]), False)

    def test_rounds_of_kinds_that_mind_each_other_but_not_side_by_side(self):
        minds = Minds(3, [(0, 2)])
        self.assertIs(Rounds([[0, 1, 2]], [0]).shows(minds, [0, 1, 2]), False)
        self.assertIs(Rounds([[0, 1], [2]], [0, 2]).shows(minds, [0, 1, 2]), True)


class ShowsHeldAgainstTheDocument(unittest.TestCase):
    """Every answer with small fields, right or wrong, of small rows."""

    def rows_of_two(self):
        for pairs in all_minds(2):
            for one, other in itertools.product(all_rows(2, 2), repeat=2):
                yield pairs, one, other

    def fields_of_two(self):
        """Rows of two kinds, and some with what is no kind."""
        return all_rows(2, 2) + [[2], [-1], [0, 2], [-1, 1], [-2, -2], [HUGE], [0, 0, 1]]

    def test_same(self):
        places = [list(places) for length in range(4) for places in itertools.product(range(-1, 3), repeat=length)]
        for pairs in ([], [(0, 1)], [(0, 1), (1, 2)]):
            minds = Minds(3, pairs)
            for one in ([], [1], [0, 2], [2, 1, 0], [0, 0, 2]):
                for other in {tuple(row) for row in itertools.permutations(one)} | {(0,), (2, 0)}:
                    for fields in places:
                        wanted = same_holds(3, pairs, one, list(other), fields)
                        self.assertIs(Same(fields).shows(minds, one, list(other)), wanted, (one, other, fields))

    def test_two_kinds(self):
        for kinds, pairs, one, other in EDGES:
            minds = Minds(kinds, pairs)
            for least, most in itertools.product(range(-kinds - 1, kinds + 2), repeat=2):
                for made, holds in ((Unlike, unlike_holds), (Held, held_holds), (Odds, odds_holds)):
                    wanted = holds(kinds, pairs, one, other, least, most)
                    told = made(least, most).shows(minds, one, other)
                    self.assertIs(told, wanted, (made.__name__, kinds, pairs, one, other, least, most))

    def test_rest(self):
        for pairs, one, other in self.rows_of_two():
            for row in self.fields_of_two():
                wanted = rest_holds(2, pairs, one, other, row)
                self.assertIs(Rest(row).shows(Minds(2, pairs), one, other), wanted)

    def test_both(self):
        fields = self.fields_of_two()
        for pairs, one, other in self.rows_of_two():
            minds = Minds(2, pairs)
            for whole, first, second in itertools.product(fields, repeat=3):
                wanted = both_holds(2, pairs, one, other, whole, first, second)
                self.assertIs(Both(whole, first, second).shows(minds, one, other), wanted)

    def test_shared(self):
        fields = self.fields_of_two()
        for pairs, one, other in self.rows_of_two():
            minds = Minds(2, pairs)
            for row, first, second in itertools.product(fields, repeat=3):
                wanted = shared_holds(2, pairs, one, other, row, first, second)
                self.assertIs(Shared(row, first, second).shows(minds, one, other), wanted)

    def test_rounds(self):
        deeds = [[], [0], [1], [2], [0, 1], [1, 0], [0, 2], [1, 2], [0, 1, 2], [1, 1], [3], [-1, 0]]
        told = [list(chosen) for length in range(3) for chosen in itertools.product(deeds, repeat=length)]
        told += [[[0], [1], [0]], [[0, 2], [1], [0]], [[0, 2], [1], [0, 2]]]
        places = [list(chosen) for length in range(3) for chosen in itertools.product(range(-1, 4), repeat=length)]
        places += [[0, 1, 2], [0, 1, 3], [2, 1, 0]]
        for pairs in ([], [(0, 1)], [(0, 2)], all_pairs(3)):
            minds = Minds(3, pairs)
            for row in ([], [0], [0, 1], [1, 0], [0, 1, 2], [0, 0], [0, 1, 0], [0, 2, 1, 0]):
                for fields in itertools.product(told, places):
                    wanted = rounds_hold(3, pairs, row, *fields)
                    self.assertIs(Rounds(*fields).shows(minds, row), wanted, (pairs, row, fields))


class ShowsRaisesNothing(unittest.TestCase):
    def test_whatever_numbers_and_lists_the_fields_hold(self):
        numbers = [-HUGE, -3, -2, -1, 3, 4, 2 ** 64, HUGE]
        for made, fields, one, other in RIGHT:
            for at, value in enumerate(fields):
                for number in numbers:
                    changed = list(fields)
                    changed[at] = self.with_number(value, number)
                    self.assertIs(shown(made(*changed), some(), one, other), False, (made.__name__, at))

    def with_number(self, value, number):
        """A field with the number in it, as a part of it or in its stead."""
        if not isinstance(value, list):
            return number
        if isinstance(value[0], list):
            return [value[0] + [number]] + value[1:]
        return value + [number]

    def test_fields_of_another_depth(self):
        values = [-1, 0, 1, 2, HUGE, [], [0], [-1], [HUGE], [[]], [[0]], [[], [0, 1]], [[HUGE]]]
        for made, fields, one, other in RIGHT:
            for changed in itertools.product(values, repeat=len(fields)):
                for rows in ((one, other), ([], []), ([0], [0])):
                    self.assertIn(shown(made(*changed), some(), *rows), (True, False))

    def test_true_and_false_are_no_numbers(self):
        minds = Minds(2, [])
        self.assertIs(Same([False]).shows(minds, [0, 1], [1, 0]), False)
        self.assertIs(Unlike(False, False).shows(minds, [0], []), False)
        self.assertIs(Held(True, True).shows(minds, [1], []), False)
        self.assertIs(Odds(False, True).shows(Minds(2, [(0, 1)]), [0], [1]), False)
        self.assertIs(Rest([True]).shows(minds, [], [1]), False)
        self.assertIs(Both([True], [True], []).shows(minds, [], [1]), False)
        self.assertIs(Shared([], [False], []).shows(minds, [0], []), False)
        self.assertIs(Rounds([[False]], [0]).shows(minds, [0]), False)
        self.assertIs(Rounds([[0]], [False]).shows(minds, [0]), False)

    def test_rows_of_none(self):
        minds = some()
        self.assertIs(Same([0]).shows(minds, [], []), False)
        self.assertIs(Same([-1]).shows(minds, [], []), False)
        self.assertIs(Unlike(0, 1).shows(minds, [], []), False)
        self.assertIs(Rest([]).shows(minds, [], []), True)
        self.assertIs(Rest([0]).shows(minds, [], []), False)
        self.assertIs(Held(0, 1).shows(minds, [], []), False)
        self.assertIs(Both([], [], []).shows(minds, [], []), True)
        self.assertIs(Both([0], [0], [0]).shows(minds, [], []), False)
        self.assertIs(Odds(0, 1).shows(minds, [], []), False)
        self.assertIs(Shared([], [], []).shows(minds, [], []), True)
        self.assertIs(Shared([], [0], []).shows(minds, [], []), False)
        self.assertIs(Rounds([], [0]).shows(minds, []), False)


class ShowsByTheFieldsAsTheyStand(unittest.TestCase):
    def test_a_field_put_in_its_stead_and_back(self):
        wrong = {"places": [0], "row": [1], "whole": [], "first": [0], "second": [2], "rounds": [[0]], "one": 2,
                 "other": 2}
        for made, fields, one, other in RIGHT:
            answer = made(*fields)
            for name in fields_of(made):
                right = getattr(answer, name)
                setattr(answer, name, wrong[name])
                self.assertIs(shown(answer, some(), one, other), False, (made.__name__, name))
                setattr(answer, name, right)
                self.assertIs(shown(answer, some(), one, other), True, (made.__name__, name))

    def test_a_list_changed_in_its_place(self):
        for made, fields, one, other in RIGHT:
            answer = made(*fields)
            for name, value in zip(fields_of(made), fields):
                if isinstance(value, list):
                    part = getattr(answer, name).pop()
                    self.assertIs(shown(answer, some(), one, other), False, (made.__name__, name))
                    getattr(answer, name).append(part)
                    self.assertIs(shown(answer, some(), one, other), True, (made.__name__, name))
                    getattr(answer, name).append(HUGE)
                    self.assertIs(shown(answer, some(), one, other), False, (made.__name__, name))
                    getattr(answer, name).pop()

    def test_a_round_changed_in_its_place(self):
        answer = Rounds([[0, 2], [1]], [0, 1])
        answer.rounds[0].reverse()
        self.assertIs(answer.shows(some(), [0, 1, 2]), False)
        answer.rounds[0].reverse()
        self.assertIs(answer.shows(some(), [0, 1, 2]), True)

    def test_a_wrong_one_put_right(self):
        answer = Same([])
        self.assertIs(answer.shows(some(), [0, 2], [2, 0]), False)
        answer.places = [0]
        self.assertIs(answer.shows(some(), [0, 2], [2, 0]), True)
        answer = Unlike(1, 0)
        self.assertIs(answer.shows(some(), [0, 1], [1, 0]), False)
        answer.one = 0
        answer.other = 1
        self.assertIs(answer.shows(some(), [0, 1], [1, 0]), True)


if __name__ == "__main__":
    unittest.main()
