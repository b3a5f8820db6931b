import inspect
import itertools
import unittest

from jostle.answers import Rounds
from jostle.minds import Minds
from jostle.turns import firsts, least, rounds
from tests.cases import long_case, one_row_cases
from tests.oracle import all_pairs, doings, minding, rounds_hold, same_by_parts, starts


class Signatures(unittest.TestCase):
    def test_the_arguments_are_called_as_the_interface_says(self):
        for call in (firsts, rounds, least):
            self.assertEqual(list(inspect.signature(call).parameters), ["minds", "row"])


class Firsts(unittest.TestCase):
    def test_edges_and_all_small_rows(self):
        for kinds, pairs, row in one_row_cases():
            with self.subTest(kinds=kinds, pairs=pairs, row=row):
                self.assertEqual(firsts(Minds(kinds, pairs), list(row)), sorted(starts(pairs, row)))

    def test_as_the_document_says_it(self):
        for kinds, pairs, row in one_row_cases():
            wanted = []
            for kind in range(kinds):
                if kind in row and not any(minding(pairs, ahead, kind) for ahead in row[:row.index(kind)]):
                    wanted.append(kind)
            self.assertEqual(firsts(Minds(kinds, pairs), row), wanted)

    def test_a_row_of_none_has_no_firsts(self):
        self.assertEqual(firsts(Minds(1, []), []), [])
        self.assertEqual(firsts(Minds(3, [(0, 1)]), []), [])

    def test_each_kind_once_and_rising(self):
        self.assertEqual(firsts(Minds(4, []), [3, 1, 3, 0, 1, 3]), [0, 1, 3])
        self.assertEqual(firsts(Minds(99, []), [64, 8, 3, 16, 1, 98, 8]), [1, 3, 8, 16, 64, 98])

    def test_a_later_deed_may_be_first(self):
        self.assertEqual(firsts(Minds(3, [(0, 1)]), [0, 1, 1, 2]), [0, 2])

    def test_a_second_deed_of_a_kind_does_not_help(self):
        self.assertEqual(firsts(Minds(3, [(0, 1)]), [0, 1, 1]), [0])

    def test_all_minding_each_other(self):
        self.assertEqual(firsts(Minds(4, all_pairs(4)), [2, 0, 1, 3]), [2])

    def test_no_bound_of_the_count_of_kinds(self):
        many = 10 ** 5000
        self.assertTrue(firsts(Minds(many, [(0, many - 1)]), [many - 1, 0, many - 2]) == [many - 2, many - 1])

    def test_a_long_row(self):
        self.assertEqual(firsts(Minds(500, []), list(range(499, -1, -1)) * 3), list(range(500)))


class TellsRounds(unittest.TestCase):
    def test_edges_and_all_small_rows(self):
        for kinds, pairs, row in one_row_cases():
            with self.subTest(kinds=kinds, pairs=pairs, row=row):
                minds = Minds(kinds, pairs)
                told = rounds(minds, list(row))
                self.assertIs(type(told), Rounds)
                self.assertTrue(rounds_hold(kinds, pairs, row, told.rounds, told.places), (told.rounds, told.places))
                self.assertIs(told.shows(minds, row), True)

    def test_a_row_of_none_has_no_rounds(self):
        told = rounds(Minds(2, [(0, 1)]), [])
        self.assertEqual((told.rounds, told.places), ([], []))

    def test_one_deed(self):
        told = rounds(Minds(2, [(0, 1)]), [1])
        self.assertEqual((told.rounds, told.places), ([[1]], [0]))

    def test_the_same_deed_again_and_again(self):
        told = rounds(Minds(1, []), [0, 0, 0])
        self.assertEqual((told.rounds, told.places), ([[0], [0], [0]], [0, 1, 2]))

    def test_no_pairs(self):
        told = rounds(Minds(4, []), [3, 1, 0, 2])
        self.assertEqual(told.rounds, [[0, 1, 2, 3]])
        self.assertEqual(len(told.places), 1)

    def test_all_minding_each_other(self):
        told = rounds(Minds(3, all_pairs(3)), [2, 0, 1, 0])
        self.assertEqual((told.rounds, told.places), ([[2], [0], [1], [0]], [0, 1, 2, 3]))

    def test_kinds_of_a_round_rise(self):
        told = rounds(Minds(4, [(0, 1), (2, 3)]), [2, 0, 3, 1])
        self.assertEqual(told.rounds, [[0, 2], [1, 3]])

    def test_the_places_skip_deeds_that_are_not_minded(self):
        told = rounds(Minds(3, [(0, 1)]), [0, 2, 1])
        self.assertEqual(told.places, [0, 2])

    def test_what_is_told_is_of_lists(self):
        told = rounds(Minds(2, []), [0, 0])
        self.assertEqual([type(told.rounds), type(told.rounds[0]), type(told.places)], [list] * 3)

    def test_long_rows(self):
        for number in range(6):
            pairs, row, other = long_case(number, 6, 400)
            minds = Minds(6, pairs)
            told = rounds(minds, row)
            self.assertTrue(same_by_parts(6, pairs, [kind for deeds in told.rounds for kind in deeds], row))
            for deeds in told.rounds:
                self.assertEqual(deeds, sorted(set(deeds)))
                self.assertNotEqual(deeds, [])
                self.assertFalse(any(minding(pairs, *both) for both in itertools.combinations(deeds, 2)))
            self.assertEqual(len(told.places), len(told.rounds))
            for ahead, behind in zip(told.places, told.places[1:]):
                self.assertLess(ahead, behind)
                self.assertTrue(minding(pairs, row[ahead], row[behind]))
            self.assertIs(told.shows(minds, row), True)
            self.assertEqual(len(rounds(minds, other).rounds), len(told.rounds))

    def test_no_bound_of_the_count_of_kinds(self):
        many = 10 ** 5000
        told = rounds(Minds(many, [(0, many - 1)]), [many - 1, 0, many - 2])
        self.assertTrue(len(told.rounds) == 2 and told.places == [0, 1])


class Least(unittest.TestCase):
    def test_edges_and_all_small_rows(self):
        for kinds, pairs, row in one_row_cases():
            with self.subTest(kinds=kinds, pairs=pairs, row=row):
                self.assertEqual(least(Minds(kinds, pairs), list(row)), list(min(doings(pairs, row))))

    def test_a_row_of_none_and_of_one(self):
        self.assertEqual(least(Minds(1, []), []), [])
        self.assertEqual(least(Minds(3, [(0, 1)]), [2]), [2])

    def test_no_pairs(self):
        self.assertEqual(least(Minds(4, []), [3, 1, 0, 2, 1, 3]), [0, 1, 1, 2, 3, 3])

    def test_all_minding_each_other(self):
        self.assertEqual(least(Minds(3, all_pairs(3)), [2, 1, 0, 2]), [2, 1, 0, 2])

    def test_a_lesser_deed_behind_one_that_holds_it(self):
        minds = Minds(3, [(0, 2)])
        self.assertEqual(least(minds, [2, 0, 1]), [1, 2, 0])
        self.assertEqual(least(minds, [1, 2, 0]), [1, 2, 0])

    def test_a_deed_passes_lesser_ones_to_get_ahead_of_a_greater_one(self):
        minds = Minds(4, [(0, 3)])
        self.assertEqual(least(minds, [3, 0, 1, 2]), [1, 2, 3, 0])

    def test_told_alike_of_all_rows_that_are_the_same_doing(self):
        for number in range(6):
            pairs, row, other = long_case(number, 6, 400)
            minds = Minds(6, pairs)
            told = least(minds, row)
            self.assertEqual(least(minds, other), told)
            self.assertTrue(same_by_parts(6, pairs, told, row))
            self.assertLessEqual(told, row)
            self.assertLessEqual(told, other)
            self.check_each_is_the_least_first(pairs, told)

    def check_each_is_the_least_first(self, pairs, row):
        """No deed behind, lesser than the one at a place, may stand there in its stead."""
        for place, deed in enumerate(row):
            for kind in range(deed):
                if kind in row[place:]:
                    ahead = row[place:row.index(kind, place)]
                    self.assertTrue(any(minding(pairs, kind, other) for other in ahead))

    def test_no_bound_of_the_count_of_kinds(self):
        many = 10 ** 5000
        row = [many - 1, 0, many - 2]
        self.assertTrue(least(Minds(many, [(0, many - 1)]), row) == [many - 2, many - 1, 0])


if __name__ == "__main__":
    unittest.main()
