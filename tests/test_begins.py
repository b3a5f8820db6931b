import inspect
import unittest

from jostle.answers import Held, Rest
from jostle.minds import Minds
from jostle.rows import begins
from tests.cases import long_case, two_row_cases
from tests.oracle import first_part, has, held_holds, is_beginning, rest_holds, same_by_parts, two_kinds


class Begins(unittest.TestCase):
    def check(self, kinds, pairs, one, other):
        minds = Minds(kinds, pairs)
        told = begins(minds, list(one), list(other))
        if is_beginning(pairs, one, other):
            self.assertIs(type(told), Rest)
            self.assertTrue(rest_holds(kinds, pairs, one, other, told.row), told.row)
        else:
            self.assertIs(type(told), Held)
            self.assertTrue(held_holds(kinds, pairs, one, other, told.one, told.other), (told.one, told.other))
        self.assertIs(told.shows(minds, one, other), True)

    def test_the_arguments_are_called_as_the_interface_says(self):
        self.assertEqual(list(inspect.signature(begins).parameters), ["minds", "one", "other"])

    def test_edges_and_all_small_rows(self):
        for kinds, pairs, one, other in two_row_cases():
            with self.subTest(kinds=kinds, pairs=pairs, one=one, other=other):
                self.check(kinds, pairs, one, other)

    def test_a_row_of_none_begins_every_row(self):
        told = begins(Minds(2, [(0, 1)]), [], [0, 1, 0])
        self.assertIs(type(told), Rest)
        self.assertEqual(told.row, [0, 1, 0])

    def test_the_same_doing_has_no_deed_behind(self):
        for one, other in (([], []), ([0], [0]), ([0, 1], [1, 0]), ([0, 1, 0], [0, 0, 1])):
            told = begins(Minds(2, []), one, other)
            self.assertIs(type(told), Rest)
            self.assertEqual(told.row, [])

    def test_where_but_one_answer_can_be_right(self):
        for kinds, pairs, one, other, wanted in (
            (2, [(0, 1)], [1], [0, 1], (0, 1)),
            (2, [(0, 1)], [0, 1, 1], [0, 1, 0, 1], (0, 1)),
            (2, [], [0, 1, 0], [0, 1, 1], (0, 0)),
            (1, [], [0, 0], [0], (0, 0)),
            (3, [(0, 2)], [1, 2], [0, 1, 2], (0, 2)),
        ):
            with self.subTest(one=one, other=other):
                told = begins(Minds(kinds, pairs), one, other)
                self.assertIs(type(told), Held)
                self.assertEqual((told.one, told.other), wanted)

    def test_what_is_told_is_of_whole_numbers_and_lists(self):
        self.assertIs(type(begins(Minds(3, []), [], []).row), list)
        told = begins(Minds(3, [(0, 1)]), [0], [1])
        self.assertEqual((type(told.one), type(told.other)), (int, int))


class LongRows(unittest.TestCase):
    def test_beginnings(self):
        for number in range(6):
            pairs, one, other = long_case(number, 6, 400)
            minds = Minds(6, pairs)
            for length in (0, 1, 150, 399, 400):
                told = begins(minds, one[:length], other)
                self.assertIs(type(told), Rest)
                self.assertTrue(same_by_parts(6, pairs, one[:length] + told.row, other))
                self.assertIs(told.shows(minds, one[:length], other), True)

    def test_rows_turned_about_are_no_beginnings(self):
        for number in range(6):
            pairs, one, other = long_case(number, 6, 400)
            minds = Minds(6, pairs)
            told = begins(minds, one[::-1], other)
            self.assertIs(type(told), Held)
            self.assertIn((told.one, told.other), two_kinds(6, pairs))
            kinds = (told.one, told.other)
            self.assertFalse(first_part(has(one[::-1], *kinds), has(other, *kinds)))
            self.assertIs(told.shows(minds, one[::-1], other), True)

    def test_a_longer_row_begins_no_shorter_one(self):
        row = [0, 1, 2] * 200
        told = begins(Minds(3, [(0, 1)]), row, row[:-1])
        self.assertIs(type(told), Held)
        self.assertEqual((told.one, told.other), (2, 2))

    def test_no_bound_of_the_count_of_kinds(self):
        many = 10 ** 5000
        minds = Minds(many, [(0, many - 1)])
        self.assertTrue(begins(minds, [many - 2], [0, many - 2, many - 1]).row == [0, many - 1])
        told = begins(minds, [many - 1], [0, many - 2, many - 1])
        self.assertTrue((told.one, told.other) == (0, many - 1))


if __name__ == "__main__":
    unittest.main()
