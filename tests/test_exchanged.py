import inspect
import itertools
import unittest

from jostle.errors import BadPlaces, BadRow, Minding
from jostle.minds import Minds, exchanged
from tests.refusals import RefusingCase, no_lists, wrong_kinds, wrong_lists


def free():
    """Three kinds, none of which mind another."""
    return Minds(3, [])


class Done(unittest.TestCase):
    def test_the_arguments_are_called_as_the_interface_says(self):
        self.assertEqual(list(inspect.signature(exchanged).parameters), ["minds", "row", "places"])

    def test_one_exchange(self):
        self.assertEqual(exchanged(free(), [0, 1, 2], [0]), [1, 0, 2])
        self.assertEqual(exchanged(free(), [0, 1, 2], [1]), [0, 2, 1])

    def test_exchanges_are_done_one_behind_the_other(self):
        self.assertEqual(exchanged(free(), [0, 1, 2], [0, 1]), [1, 2, 0])
        self.assertEqual(exchanged(free(), [0, 1, 2], [1, 0]), [2, 0, 1])
        self.assertEqual(exchanged(free(), [0, 1, 2], [0, 1, 0]), [2, 1, 0])

    def test_an_exchange_done_twice_leads_back(self):
        self.assertEqual(exchanged(free(), [2, 0, 1], [1, 1]), [2, 0, 1])

    def test_others_that_mind_do_not_hinder(self):
        minds = Minds(4, [(0, 1), (2, 3)])
        self.assertEqual(exchanged(minds, [0, 2, 1, 3], [0]), [2, 0, 1, 3])
        self.assertEqual(exchanged(minds, [1, 0, 2, 3], [1, 0]), [2, 1, 0, 3])

    def test_one_kind_may_stand_several_times(self):
        self.assertEqual(exchanged(free(), [0, 0, 1, 0], [1, 0]), [1, 0, 0, 0])

    def test_no_places(self):
        self.assertEqual(exchanged(free(), [2, 1, 1], []), [2, 1, 1])

    def test_a_row_of_none_and_of_one(self):
        self.assertEqual(exchanged(free(), [], []), [])
        self.assertEqual(exchanged(free(), [2], []), [2])
        self.assertEqual(exchanged(Minds(1, []), [0], []), [0])

    def test_the_last_place_that_has_a_next_one(self):
        self.assertEqual(exchanged(free(), [0, 1], [0]), [1, 0])
        self.assertEqual(exchanged(free(), [2, 1, 0, 1], [2]), [2, 1, 1, 0])

    def test_a_long_row(self):
        row = [0] + [1] * 3000
        self.assertEqual(exchanged(free(), row, list(range(3000))), [1] * 3000 + [0])

    def test_all_small_rows_and_places(self):
        minds = Minds(3, [(0, 1)])
        for row in itertools.product(range(3), repeat=4):
            for places in itertools.product(range(3), repeat=3):
                with self.subTest(row=row, places=places):
                    self.check(minds, list(row), list(places))

    def check(self, minds, row, places):
        wanted = list(row)
        for at, place in enumerate(places):
            if set(wanted[place:place + 2]) in ({0, 1}, {0}, {1}, {2}):
                with self.assertRaises(Minding) as caught:
                    exchanged(minds, row, places)
                self.assertEqual(caught.exception.at, at)
                return
            wanted[place:place + 2] = [wanted[place + 1], wanted[place]]
        self.assertEqual(exchanged(minds, row, places), wanted)


class CannotBeDone(RefusingCase):
    def at_of(self, minds, row, places):
        at = self.assert_refused(Minding, exchanged, minds, row, places).at
        self.assertIs(type(at), int)
        return at

    def test_two_kinds_that_mind_each_other(self):
        minds = Minds(3, [(0, 1)])
        self.assertEqual(self.at_of(minds, [0, 1], [0]), 0)
        self.assertEqual(self.at_of(minds, [1, 0], [0]), 0)

    def test_a_kind_with_itself(self):
        for kind in range(3):
            self.assertEqual(self.at_of(free(), [kind, kind], [0]), 0)
        self.assertEqual(self.at_of(Minds(1, []), [0, 0, 0], [1]), 0)

    def test_the_first_a_middle_and_the_last_of_several(self):
        minds = Minds(4, [(0, 1)])
        self.assertEqual(self.at_of(minds, [0, 1, 2, 3], [0, 1, 2]), 0)
        self.assertEqual(self.at_of(minds, [0, 1, 2, 3], [2, 0, 1]), 1)
        self.assertEqual(self.at_of(minds, [0, 1, 2, 3], [2, 1, 1, 0]), 3)

    def test_at_counts_exchanges_and_not_places(self):
        minds = Minds(3, [(0, 1)])
        self.assertEqual(self.at_of(minds, [2, 2, 2, 0, 1], [3]), 0)
        self.assertEqual(self.at_of(minds, [2, 0, 1], [0, 0, 0, 0, 1]), 4)

    def test_of_several_the_first_is_told(self):
        minds = Minds(3, [(0, 1)])
        self.assertEqual(self.at_of(minds, [2, 0, 1, 0, 1], [0, 3, 2, 1]), 1)

    def test_the_row_as_it_stands_then_counts(self):
        minds = Minds(3, [(0, 1)])
        self.assertEqual(self.at_of(minds, [0, 2, 1], [0, 1]), 1)
        self.assertEqual(exchanged(minds, [0, 1, 2], [1, 0]), [2, 0, 1])


class NothingChangedOrKept(unittest.TestCase):
    def test_lists_handed_in_stay_as_they_are(self):
        row = [0, 1, 2]
        places = [0, 1]
        minds = free()
        exchanged(minds, row, places)
        self.assertEqual((row, places), ([0, 1, 2], [0, 1]))
        self.assertEqual((minds.kinds, minds.pairs()), (3, []))

    def test_lists_stay_as_they_are_when_an_exchange_cannot_be_done(self):
        row = [0, 1, 1]
        places = [0, 0, 1]
        with self.assertRaises(Minding):
            exchanged(free(), row, places)
        self.assertEqual((row, places), ([0, 1, 1], [0, 0, 1]))

    def test_lists_stay_as_they_are_when_refused(self):
        row = [0, 1, 2]
        places = [0, 2]
        with self.assertRaises(BadPlaces):
            exchanged(free(), row, places)
        self.assertEqual((row, places), ([0, 1, 2], [0, 2]))

    def test_what_is_told_is_new(self):
        minds = free()
        for row, places in (([0, 1], [0]), ([0, 1], []), ([0], []), ([], [])):
            before = list(row)
            told = exchanged(minds, row, places)
            wanted = list(told)
            told.append(2)
            self.assertEqual(row, before)
            self.assertEqual(exchanged(minds, row, places), wanted)

    def test_lists_handed_in_may_be_changed_afterwards(self):
        row = [0, 1, 2]
        places = [0]
        told = exchanged(free(), row, places)
        row.clear()
        places.append(1)
        self.assertEqual(told, [1, 0, 2])

    def test_what_is_told_is_a_list(self):
        self.assertIs(type(exchanged(free(), [0, 1], [0])), list)


class Refused(RefusingCase):
    def test_wrong_rows(self):
        for row in wrong_lists(3, 0):
            self.assert_refused(BadRow, exchanged, free(), row, [])

    def test_a_wrong_kind_where_nothing_is_exchanged(self):
        for value in wrong_kinds(3):
            self.assert_refused(BadRow, exchanged, free(), [0, 1, value], [0])

    def test_the_count_of_kinds_is_no_kind(self):
        self.assert_refused(BadRow, exchanged, Minds(1, []), [0, 1], [])
        self.assert_refused(BadRow, exchanged, free(), [3], [])

    def test_wrong_places(self):
        for places in wrong_lists(2, 1):
            self.assert_refused(BadPlaces, exchanged, free(), [0, 1, 2], places)

    def test_the_last_place_has_no_next_one(self):
        self.assert_refused(BadPlaces, exchanged, free(), [0, 1], [1])
        self.assert_refused(BadPlaces, exchanged, free(), [0, 1, 2, 0], [3])

    def test_places_are_not_counted_from_behind(self):
        for place in (-1, -2, -3):
            self.assert_refused(BadPlaces, exchanged, free(), [0, 1, 2], [place])

    def test_rows_of_none_and_of_one_have_no_place_for_an_exchange(self):
        for row in ([], [1]):
            for place in (-2, -1, 0, 1):
                self.assert_refused(BadPlaces, exchanged, free(), row, [place])

    def test_no_list_of_places_for_rows_of_none_and_of_one(self):
        for row in ([], [1]):
            for places in no_lists():
                self.assert_refused(BadPlaces, exchanged, free(), row, places)

    def test_a_wrong_row_is_told_ahead_of_wrong_places(self):
        for row in wrong_lists(3, 0):
            for places in (None, (), [-1], [99], [True], "0"):
                self.assert_refused(BadRow, exchanged, free(), row, places)

    def test_a_wrong_row_is_told_ahead_of_minding(self):
        self.assert_refused(BadRow, exchanged, free(), [0, 0, 3], [0])
        self.assert_refused(BadRow, exchanged, free(), (0, 0), [0])

    def test_wrong_places_are_told_ahead_of_minding(self):
        for value in wrong_kinds(2):
            self.assert_refused(BadPlaces, exchanged, free(), [0, 0, 1], [0, value])
            self.assert_refused(BadPlaces, exchanged, free(), [0, 0, 1], [value, 0])
        self.assert_refused(BadPlaces, exchanged, free(), [0, 0], (0,))


if __name__ == "__main__":
    unittest.main()
