import inspect
import unittest

from jostle.answers import Shared
from jostle.minds import Minds
from jostle.rows import common
from tests.cases import long_case, two_row_cases
from tests.oracle import all_minds, all_rows, doings, is_beginning, minding, same_by_parts, shared_holds


def may_be_first(pairs, row, kind):
    """Said straight by the document, for rows too long to be searched through."""
    return kind in row and not any(minding(pairs, deed, kind) for deed in row[:row.index(kind)])


class Common(unittest.TestCase):
    def check(self, kinds, pairs, one, other):
        minds = Minds(kinds, pairs)
        told = common(minds, list(one), list(other))
        self.assertIs(type(told), Shared)
        fields = (told.row, told.first, told.second)
        self.assertTrue(shared_holds(kinds, pairs, one, other, *fields), fields)
        self.assertIs(told.shows(minds, one, other), True)

    def test_the_arguments_are_called_as_the_interface_says(self):
        self.assertEqual(list(inspect.signature(common).parameters), ["minds", "one", "other"])

    def test_edges_and_all_small_rows(self):
        for kinds, pairs, one, other in two_row_cases():
            with self.subTest(kinds=kinds, pairs=pairs, one=one, other=other):
                self.check(kinds, pairs, one, other)

    def test_every_beginning_of_both_begins_what_is_shared(self):
        beginnings = all_rows(3, 2)
        for pairs in all_minds(3):
            for one in all_rows(3, 3):
                for other in all_rows(3, 2):
                    told = common(Minds(3, pairs), one, other)
                    for row in beginnings:
                        if is_beginning(pairs, row, one) and is_beginning(pairs, row, other):
                            self.assertTrue(is_beginning(pairs, row, told.row), (pairs, one, other, row))

    def test_nothing_shared(self):
        told = common(Minds(2, [(0, 1)]), [0, 1], [1, 0])
        self.assertEqual((told.row, told.first, told.second), ([], [0, 1], [1, 0]))

    def test_all_shared(self):
        told = common(Minds(3, [(0, 1)]), [0, 2, 1], [0, 1, 2])
        self.assertIn(tuple(told.row), doings([(0, 1)], [0, 2, 1]))
        self.assertEqual((told.first, told.second), ([], []))

    def test_a_row_of_none_shares_none(self):
        minds = Minds(2, [])
        for one, other in (([], []), ([0, 1], []), ([], [0, 1])):
            told = common(minds, one, other)
            self.assertEqual(told.row, [])
            self.assertEqual(sorted(told.first), one)
            self.assertEqual(sorted(told.second), other)

    def test_a_beginning_is_shared_whole(self):
        told = common(Minds(2, [(0, 1)]), [0, 1], [0, 1, 1, 0])
        self.assertEqual((told.row, told.first, told.second), ([0, 1], [], [1, 0]))

    def test_a_deed_behind_one_that_is_not_shared(self):
        told = common(Minds(3, [(0, 1)]), [0, 1, 2], [1, 2])
        self.assertEqual((told.row, told.first, told.second), ([2], [0, 1], [1]))

    def test_what_is_told_is_of_lists(self):
        told = common(Minds(2, []), [], [])
        self.assertEqual([type(row) for row in (told.row, told.first, told.second)], [list] * 3)


class LongRows(unittest.TestCase):
    def test_long_rows(self):
        for number in range(6):
            pairs, one, other = long_case(number, 6, 400)
            other = other[:200] + other[210:]
            minds = Minds(6, pairs)
            told = common(minds, one, other)
            self.assertTrue(same_by_parts(6, pairs, told.row + told.first, one))
            self.assertTrue(same_by_parts(6, pairs, told.row + told.second, other))
            for kind in range(6):
                both = may_be_first(pairs, told.first, kind) and may_be_first(pairs, told.second, kind)
                self.assertFalse(both)
            self.assertIs(told.shows(minds, one, other), True)

    def test_no_bound_of_the_count_of_kinds(self):
        many = 10 ** 5000
        told = common(Minds(many, [(0, many - 1)]), [0, many - 2], [many - 2, many - 1])
        self.assertTrue((told.row, told.first, told.second) == ([many - 2], [0], [many - 1]))


if __name__ == "__main__":
    unittest.main()
