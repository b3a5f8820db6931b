import inspect
import unittest

from jostle.answers import Both, Odds
from jostle.minds import Minds
from jostle.rows import together
from tests.cases import EDGES, long_case, middling_cases, small_cases, two_row_cases
from tests.oracle import (
    all_minds, all_rows, both_holds, have_whole, odds_holds, same_by_parts, two_kinds,
)


class Together(unittest.TestCase):
    def check(self, kinds, pairs, one, other):
        minds = Minds(kinds, pairs)
        told = together(minds, list(one), list(other))
        if any(odds_holds(kinds, pairs, one, other, *both) for both in two_kinds(kinds, pairs)):
            self.assertIs(type(told), Odds)
            self.assertTrue(odds_holds(kinds, pairs, one, other, told.one, told.other), (told.one, told.other))
        else:
            self.assertIs(type(told), Both)
            fields = (told.whole, told.first, told.second)
            self.assertTrue(both_holds(kinds, pairs, one, other, *fields), fields)
        self.assertIs(told.shows(minds, one, other), True)

    def test_the_arguments_are_called_as_the_interface_says(self):
        self.assertEqual(list(inspect.signature(together).parameters), ["minds", "one", "other"])

    def test_edges_and_all_small_rows(self):
        for kinds, pairs, one, other in two_row_cases():
            with self.subTest(kinds=kinds, pairs=pairs, one=one, other=other):
                self.check(kinds, pairs, one, other)

    def test_odds_are_told_only_where_no_whole_is_found_by_search(self):
        cases = [case for case in EDGES if len(case[2]) + len(case[3]) < 8]
        for pairs in all_minds(3):
            cases.extend((3, pairs, one, other) for one in all_rows(3, 2) for other in all_rows(3, 2))
        for kinds, pairs, one, other in cases:
            with self.subTest(kinds=kinds, pairs=pairs, one=one, other=other):
                told = together(Minds(kinds, pairs), one, other)
                self.assertIs(isinstance(told, Both), have_whole(kinds, pairs, one, other))

    def test_each_side_lacks_what_only_the_other_has(self):
        told = together(Minds(2, []), [0], [1])
        self.assertIs(type(told), Both)
        self.assertEqual((sorted(told.whole), told.first, told.second), ([0, 1], [1], [0]))

    def test_a_beginning_lacks_the_rest(self):
        minds = Minds(3, [(0, 1)])
        told = together(minds, [0], [0, 1, 0])
        self.assertEqual((told.whole, told.first, told.second), ([0, 1, 0], [1, 0], []))
        told = together(minds, [0, 1, 0], [0])
        self.assertEqual((told.whole, told.first, told.second), ([0, 1, 0], [], [1, 0]))

    def test_two_rows_of_none(self):
        told = together(Minds(1, []), [], [])
        self.assertEqual((told.whole, told.first, told.second), ([], [], []))

    def test_where_but_one_answer_can_be_right(self):
        for kinds, pairs, one, other, wanted in (
            (2, [(0, 1)], [0], [1], (0, 1)),
            (2, [(0, 1)], [0, 1, 0], [0, 0], (0, 1)),
            (3, [(0, 2)], [1, 0, 1], [2], (0, 2)),
            (4, [(0, 1), (2, 3)], [0, 2, 3], [0, 1, 3], (2, 3)),
        ):
            with self.subTest(one=one, other=other):
                told = together(Minds(kinds, pairs), one, other)
                self.assertIs(type(told), Odds)
                self.assertEqual((told.one, told.other), wanted)

    def test_what_is_told_is_of_whole_numbers_and_lists(self):
        told = together(Minds(2, []), [0], [1])
        self.assertEqual([type(row) for row in (told.whole, told.first, told.second)], [list] * 3)
        told = together(Minds(3, [(0, 1)]), [0], [1])
        self.assertEqual((type(told.one), type(told.other)), (int, int))

    def test_the_rows_at_hand_bring_both_answers(self):
        for cases in (EDGES, small_cases(), middling_cases()):
            told = {type(together(Minds(kinds, pairs), one, other)) for kinds, pairs, one, other in cases}
            self.assertEqual(told, {Both, Odds})


class LongRows(unittest.TestCase):
    def test_two_beginnings_of_one_row(self):
        for number in range(6):
            pairs, one, other = long_case(number, 6, 400)
            minds = Minds(6, pairs)
            first = one[:250]
            second = other[:300]
            told = together(minds, first, second)
            self.assertIs(type(told), Both)
            self.assertTrue(same_by_parts(6, pairs, first + told.first, told.whole))
            self.assertTrue(same_by_parts(6, pairs, second + told.second, told.whole))
            for kind in range(6):
                self.assertEqual(told.whole.count(kind), max(first.count(kind), second.count(kind)))
            self.assertIs(told.shows(minds, first, second), True)

    def test_no_bound_of_the_count_of_kinds(self):
        many = 10 ** 5000
        minds = Minds(many, [(0, many - 1)])
        told = together(minds, [many - 2], [0])
        self.assertTrue((sorted(told.whole), told.first, told.second) == ([0, many - 2], [0], [many - 2]))
        told = together(minds, [many - 1], [0])
        self.assertTrue((told.one, told.other) == (0, many - 1))


if __name__ == "__main__":
    unittest.main()
