import inspect
import unittest

from jostle.answers import Same, Unlike
from jostle.minds import Minds
from jostle.rows import alike
from tests.cases import long_case, two_row_cases
from tests.oracle import all_pairs, has, moved, same, same_holds, two_kinds, unlike_holds


class Alike(unittest.TestCase):
    def check(self, kinds, pairs, one, other):
        """Of the one answer: whether it is the right one of the two, and whether it is as the document tells."""
        minds = Minds(kinds, pairs)
        told = alike(minds, list(one), list(other))
        if same(pairs, one, other):
            self.assertIs(type(told), Same)
            self.assertTrue(same_holds(kinds, pairs, one, other, told.places), told.places)
        else:
            self.assertIs(type(told), Unlike)
            self.assertTrue(unlike_holds(kinds, pairs, one, other, told.one, told.other), (told.one, told.other))
        self.assertIs(told.shows(minds, one, other), True)

    def test_the_arguments_are_called_as_the_interface_says(self):
        self.assertEqual(list(inspect.signature(alike).parameters), ["minds", "one", "other"])

    def test_edges_and_all_small_rows(self):
        for kinds, pairs, one, other in two_row_cases():
            with self.subTest(kinds=kinds, pairs=pairs, one=one, other=other):
                self.check(kinds, pairs, one, other)

    def test_the_very_same_list_twice(self):
        row = [0, 2, 1]
        told = alike(Minds(3, [(0, 1)]), row, row)
        self.assertIs(type(told), Same)
        self.assertEqual(moved([(0, 1)], row, told.places), row)

    def test_exchanges_of_two_deeds(self):
        told = alike(Minds(2, []), [0, 1], [1, 0])
        self.assertIs(type(told), Same)
        self.assertEqual(moved([], [0, 1], told.places), [1, 0])

    def test_where_but_one_answer_can_be_right(self):
        for kinds, pairs, one, other, wanted in (
            (2, [(0, 1)], [0, 1], [1, 0], (0, 1)),
            (2, [(0, 1)], [1, 0], [0, 1], (0, 1)),
            (3, [], [2], [2, 2], (2, 2)),
            (3, [], [2, 1, 0], [0, 1], (2, 2)),
            (4, [(0, 2), (1, 3)], [0, 3, 2, 1], [0, 1, 2, 3], (1, 3)),
        ):
            with self.subTest(one=one, other=other):
                told = alike(Minds(kinds, pairs), one, other)
                self.assertIs(type(told), Unlike)
                self.assertEqual((told.one, told.other), wanted)

    def test_what_is_told_is_of_whole_numbers_and_lists(self):
        told = alike(Minds(3, []), [0, 1, 2], [2, 1, 0])
        self.assertIs(type(told.places), list)
        self.assertEqual({type(place) for place in told.places}, {int})
        told = alike(Minds(3, [(0, 1)]), [0, 1], [1, 0])
        self.assertEqual((type(told.one), type(told.other)), (int, int))


class LongRows(unittest.TestCase):
    def test_the_same_doing(self):
        for number in range(6):
            pairs, one, other = long_case(number, 6, 150)
            minds = Minds(6, pairs)
            told = alike(minds, one, other)
            self.assertIs(type(told), Same)
            self.assertEqual(moved(pairs, one, told.places), other)
            self.assertIs(told.shows(minds, one, other), True)

    def test_two_deeds_that_mind_each_other_exchanged(self):
        pairs, one, other = long_case(3, 6, 150)
        for place in range(149):
            if (min(other[place:place + 2]), max(other[place:place + 2])) in pairs:
                unlike = other[:place] + [other[place + 1], other[place]] + other[place + 2:]
                told = alike(Minds(6, pairs), one, unlike)
                self.assertIs(type(told), Unlike)
                self.assertIn((told.one, told.other), two_kinds(6, pairs))
                self.assertNotEqual(has(one, told.one, told.other), has(unlike, told.one, told.other))

    def test_a_row_turned_about(self):
        row = list(range(300))
        minds = Minds(300, [])
        told = alike(minds, row, row[::-1])
        self.assertEqual(moved([], row, told.places), row[::-1])
        self.assertIs(told.shows(minds, row, row[::-1]), True)

    def test_many_kinds_that_all_mind_each_other(self):
        row = list(range(60)) * 4
        minds = Minds(60, all_pairs(60))
        self.assertIs(type(alike(minds, row, list(row))), Same)
        told = alike(minds, row, row[:-2] + [row[-1], row[-2]])
        self.assertEqual((told.one, told.other), (58, 59))

    def test_no_bound_of_the_count_of_kinds(self):
        many = 10 ** 5000
        minds = Minds(many, [(0, many - 1)])
        told = alike(minds, [0, many - 2, many - 1], [many - 2, 0, many - 1])
        self.assertIs(type(told), Same)
        self.assertIs(told.shows(minds, [0, many - 2, many - 1], [many - 2, 0, many - 1]), True)
        told = alike(minds, [0, many - 1], [many - 1, 0])
        self.assertTrue((told.one, told.other) == (0, many - 1))
        self.assertIs(told.shows(minds, [0, many - 1], [many - 1, 0]), True)


if __name__ == "__main__":
    unittest.main()
