"""What holds of every function of jostle.rows and jostle.turns: what is handed in, refused or told."""

import itertools
import unittest

from jostle.errors import BadRow
from jostle.minds import Minds
from jostle.rows import alike, begins, common, together
from jostle.turns import firsts, least, rounds
from tests.cases import EDGES
from tests.refusals import RefusingCase, no_lists, wrong_kinds, wrong_lists

TWO_ROWS = [alike, begins, together, common]
ONE_ROW = [firsts, rounds, least]


def some():
    """Three kinds, of which 0 and 1 mind each other."""
    return Minds(3, [(0, 1)])


def plain(told):
    """What is told, with its class, as it stands now: lists copied all through."""
    if isinstance(told, list):
        return list(told)
    fields = []
    for name, value in sorted(vars(told).items()):
        if isinstance(value, list):
            value = [list(part) if isinstance(part, list) else part for part in value]
        fields.append((name, value))
    return type(told), fields


def lists_in(told):
    """All lists of what is told."""
    values = [told] if isinstance(told, list) else list(vars(told).values())
    found = [value for value in values if isinstance(value, list)]
    for value in list(found):
        found.extend(part for part in value if isinstance(part, list))
    return found


class Refused(RefusingCase):
    def test_the_first_of_two_rows_wrong(self):
        for call in TWO_ROWS:
            for row in wrong_lists(3, 0):
                self.assert_refused(BadRow, call, some(), row, [0, 1, 2])
                self.assert_refused(BadRow, call, some(), row, [])

    def test_the_second_of_two_rows_wrong(self):
        for call in TWO_ROWS:
            for row in wrong_lists(3, 0):
                self.assert_refused(BadRow, call, some(), [0, 1, 2], row)
                self.assert_refused(BadRow, call, some(), [], row)

    def test_both_rows_wrong(self):
        for call in TWO_ROWS:
            for row in wrong_lists(3, 0):
                self.assert_refused(BadRow, call, some(), row, row)
                for other in (None, (0,), [3], [True], "0"):
                    self.assert_refused(BadRow, call, some(), row, other)
                    self.assert_refused(BadRow, call, some(), other, row)

    def test_one_row_wrong(self):
        for call in ONE_ROW:
            for row in wrong_lists(3, 0):
                self.assert_refused(BadRow, call, some(), row)

    def test_a_wrong_kind_behind_all_that_would_settle_it(self):
        for value in wrong_kinds(3):
            for call in TWO_ROWS:
                self.assert_refused(BadRow, call, some(), [0, 1, 0, value], [1, 0, 1])
                self.assert_refused(BadRow, call, some(), [0, 1, 0], [1, 0, 1, value])
            for call in ONE_ROW:
                self.assert_refused(BadRow, call, some(), [0, 1, 0, 1, value])

    def test_true_and_false_are_no_kinds(self):
        for row in ([True], [False], [0, True], [False, 2]):
            for call in TWO_ROWS:
                self.assert_refused(BadRow, call, some(), row, [0, 1])
                self.assert_refused(BadRow, call, some(), [0, 1], row)
            for call in ONE_ROW:
                self.assert_refused(BadRow, call, some(), row)

    def test_the_count_of_kinds_is_no_kind(self):
        for kinds in (1, 2, 5):
            for call in TWO_ROWS:
                self.assert_refused(BadRow, call, Minds(kinds, []), [kinds], [0])
                self.assert_refused(BadRow, call, Minds(kinds, []), [0], [kinds])
            for call in ONE_ROW:
                self.assert_refused(BadRow, call, Minds(kinds, []), [0, kinds])

    def test_lists_stay_as_they_are_when_refused(self):
        for call in TWO_ROWS:
            one, other = [0, 1, 3], [2, 1, -1]
            self.assert_refused(BadRow, call, some(), one, other)
            self.assertEqual((one, other), ([0, 1, 3], [2, 1, -1]))
        for call in ONE_ROW:
            row = [2, 1, 3]
            self.assert_refused(BadRow, call, some(), row)
            self.assertEqual(row, [2, 1, 3])

    def test_what_is_no_list_is_refused_even_if_it_holds_nothing(self):
        for value in no_lists():
            for call in ONE_ROW:
                self.assert_refused(BadRow, call, Minds(1, []), value)


class NothingChangedOrKept(unittest.TestCase):
    def calls(self):
        """Each function with minds and rows for it, made anew."""
        for kinds, pairs, one, other in EDGES:
            for call in TWO_ROWS:
                yield call, Minds(kinds, pairs), [list(one), list(other)]
            for call in ONE_ROW:
                yield call, Minds(kinds, pairs), [list(one)]

    def test_lists_handed_in_stay_as_they_are(self):
        for call, minds, rows in self.calls():
            before = [list(row) for row in rows]
            kinds, pairs = minds.kinds, minds.pairs()
            call(minds, *rows)
            self.assertEqual(rows, before)
            self.assertEqual((minds.kinds, minds.pairs()), (kinds, pairs))

    def test_lists_handed_in_may_be_changed_afterwards(self):
        for call, minds, rows in self.calls():
            told = call(minds, *rows)
            wanted = plain(told)
            for row in rows:
                row.append(0)
                row.reverse()
            self.assertEqual(plain(told), wanted)

    def test_what_is_told_may_be_changed(self):
        for call, minds, rows in self.calls():
            before = [list(row) for row in rows]
            told = call(minds, *rows)
            wanted = plain(told)
            for found in lists_in(told):
                found.append(0)
                found.reverse()
            self.assertEqual(rows, before)
            self.assertEqual(plain(call(minds, *rows)), wanted)

    def test_no_list_told_is_another_one(self):
        for call, minds, rows in self.calls():
            found = rows + lists_in(call(minds, *rows)) + lists_in(call(minds, *rows))
            for one, other in itertools.combinations(found, 2):
                self.assertIsNot(one, other)

    def test_one_list_handed_in_as_both_rows(self):
        for call in TWO_ROWS:
            row = [0, 2, 1, 0]
            told = call(some(), row, row)
            self.assertEqual(row, [0, 2, 1, 0])
            self.assertIs(told.shows(some(), row, row), True)

    def test_told_again_it_is_told_alike(self):
        for call, minds, rows in self.calls():
            self.assertEqual(plain(call(minds, *rows)), plain(call(minds, *rows)))


if __name__ == "__main__":
    unittest.main()
