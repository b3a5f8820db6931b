import inspect
import unittest

from jostle.errors import BadMinds, BadRow
from jostle.minds import Minds
from tests.refusals import RefusingCase, no_lists, no_numbers, wrong_kinds


class Sound(unittest.TestCase):
    def test_the_arguments_are_called_as_the_interface_says(self):
        self.assertEqual(list(inspect.signature(Minds).parameters), ["kinds", "pairs"])
        self.assertEqual(list(inspect.signature(Minds.pairs).parameters), ["self"])
        self.assertEqual(list(inspect.signature(Minds.mind).parameters), ["self", "one", "other"])

    def test_kinds_and_pairs_are_told(self):
        minds = Minds(4, [(0, 1), (1, 3)])
        self.assertEqual(minds.kinds, 4)
        self.assertIs(type(minds.kinds), int)
        self.assertEqual(minds.pairs(), [(0, 1), (1, 3)])
        self.assertIs(type(minds.pairs()), list)

    def test_pairs_are_told_in_the_order_handed_in(self):
        pairs = [(2, 3), (0, 3), (1, 2), (0, 1)]
        self.assertEqual(Minds(4, pairs).pairs(), [(2, 3), (0, 3), (1, 2), (0, 1)])

    def test_each_two_kinds_mind_as_told(self):
        pairs = [(0, 2), (1, 2), (0, 4)]
        minds = Minds(5, pairs)
        for one in range(5):
            for other in range(5):
                with self.subTest(one=one, other=other):
                    told = one == other or (one, other) in pairs or (other, one) in pairs
                    self.assertIs(minds.mind(one, other), told)

    def test_minding_does_not_pass_from_pair_to_pair(self):
        minds = Minds(3, [(0, 1), (1, 2)])
        self.assertIs(minds.mind(0, 2), False)
        self.assertIs(minds.mind(2, 0), False)

    def test_one_kind_alone(self):
        minds = Minds(1, [])
        self.assertEqual(minds.kinds, 1)
        self.assertEqual(minds.pairs(), [])
        self.assertIs(minds.mind(0, 0), True)

    def test_no_pairs(self):
        minds = Minds(3, [])
        self.assertEqual(minds.pairs(), [])
        self.assertIs(minds.mind(2, 2), True)
        self.assertIs(minds.mind(0, 2), False)

    def test_all_pairs(self):
        pairs = [(one, other) for other in range(6) for one in range(other)]
        minds = Minds(6, pairs)
        self.assertEqual(minds.pairs(), pairs)
        self.assertTrue(all(minds.mind(one, other) for one in range(6) for other in range(6)))

    def test_the_last_two_kinds_may_be_a_pair(self):
        minds = Minds(9, [(7, 8)])
        self.assertIs(minds.mind(8, 7), True)
        self.assertIs(minds.mind(7, 8), True)

    def test_the_count_of_kinds_has_no_bound(self):
        many = 10 ** 5000
        minds = Minds(many, [(0, many - 1)])
        self.assertEqual(minds.kinds, many)
        self.assertIs(minds.mind(many - 1, 0), True)
        self.assertIs(minds.mind(many - 1, 1), False)

    def test_two_minds_keep_apart(self):
        first = Minds(3, [(0, 1)])
        second = Minds(4, [(1, 2)])
        self.assertEqual((first.kinds, first.pairs()), (3, [(0, 1)]))
        self.assertEqual((second.kinds, second.pairs()), (4, [(1, 2)]))
        self.assertIs(first.mind(1, 2), False)
        self.assertIs(second.mind(0, 1), False)


class NothingChangedOrKept(unittest.TestCase):
    def test_the_list_handed_in_stays_as_it_is(self):
        pairs = [(1, 2), (0, 1)]
        minds = Minds(3, pairs)
        minds.pairs()
        minds.mind(0, 2)
        self.assertEqual(pairs, [(1, 2), (0, 1)])

    def test_a_refused_list_stays_as_it_is(self):
        pairs = [(1, 2), (0, 1), (1, 2)]
        with self.assertRaises(BadMinds):
            Minds(3, pairs)
        self.assertEqual(pairs, [(1, 2), (0, 1), (1, 2)])

    def test_the_list_handed_in_may_be_changed_afterwards(self):
        pairs = [(0, 1)]
        minds = Minds(3, pairs)
        pairs[0] = (1, 2)
        pairs.append((0, 2))
        self.assertEqual(minds.pairs(), [(0, 1)])
        self.assertIs(minds.mind(0, 1), True)
        self.assertIs(minds.mind(1, 2), False)
        self.assertIs(minds.mind(0, 2), False)

    def test_the_list_told_may_be_changed(self):
        minds = Minds(3, [(0, 1)])
        told = minds.pairs()
        told[0] = (1, 2)
        told.append((0, 2))
        self.assertEqual(minds.pairs(), [(0, 1)])
        self.assertIs(minds.mind(0, 1), True)
        self.assertIs(minds.mind(1, 2), False)
        self.assertIs(minds.mind(0, 2), False)

    def test_the_list_told_is_new_each_time(self):
        pairs = [(0, 1)]
        minds = Minds(3, pairs)
        self.assertIsNot(minds.pairs(), minds.pairs())
        self.assertIsNot(minds.pairs(), pairs)


class BadMindsRefused(RefusingCase):
    def test_kinds_that_are_no_number(self):
        for kinds in no_numbers():
            self.assert_refused(BadMinds, Minds, kinds, [])

    def test_kinds_below_one(self):
        for kinds in (0, -1, -2, -(2 ** 64), -(10 ** 5000)):
            self.assert_refused(BadMinds, Minds, kinds, [])

    def test_pairs_that_are_no_list(self):
        for pairs in no_lists():
            self.assert_refused(BadMinds, Minds, 3, pairs)

    def test_a_pair_that_is_no_tuple(self):
        wrong = [value for value in no_numbers() + [0, 1] if not isinstance(value, tuple)]
        for value in wrong + [[0, 1], [(0, 1)], {0: 0, 1: 1}, {0, 1}, "01", b"01", range(2)]:
            for pairs in ([value], [(0, 2), value], [value, (0, 2)], [(0, 2), value, (1, 2)]):
                self.assert_refused(BadMinds, Minds, 3, pairs)

    def test_a_tuple_not_of_two(self):
        for value in ((), (0,), (1,), (0, 1, 2), (0, 1, 1), (0, 1, 2, 3), ((0, 1),), ((0, 1), (1, 2))):
            for pairs in ([value], [(0, 2), value], [value, (0, 2)]):
                self.assert_refused(BadMinds, Minds, 3, pairs)

    def test_a_pair_with_what_is_no_kind(self):
        for value in wrong_kinds(3):
            for pair in ((value, 2), (0, value), (value, value), (value, 0), (2, value)):
                self.assert_refused(BadMinds, Minds, 3, [pair])
                self.assert_refused(BadMinds, Minds, 3, [(0, 1), pair])

    def test_true_and_false_in_a_pair_are_no_numbers(self):
        for pair in ((False, True), (False, 1), (0, True), (True, 2), (False, 2)):
            self.assert_refused(BadMinds, Minds, 3, [pair])

    def test_the_count_of_kinds_is_no_kind(self):
        for kinds in (1, 2, 5):
            self.assert_refused(BadMinds, Minds, kinds, [(0, kinds)])

    def test_a_pair_of_one_kind_twice(self):
        for kind in range(3):
            self.assert_refused(BadMinds, Minds, 3, [(kind, kind)])

    def test_a_pair_with_the_greater_first(self):
        for pair in ((1, 0), (2, 0), (2, 1)):
            self.assert_refused(BadMinds, Minds, 3, [pair])
        self.assert_refused(BadMinds, Minds, 3, [(0, 1), (1, 0)])

    def test_two_pairs_alike(self):
        for pairs in ([(0, 1), (0, 1)], [(0, 1), (1, 2), (0, 1)], [(0, 2), (0, 1), (1, 2), (1, 2)]):
            self.assert_refused(BadMinds, Minds, 3, pairs)

    def test_both_wrong(self):
        for kinds in (0, None, True, "1", 10 ** 5000 * -1):
            for pairs in (None, (), [(1, 0)], [None]):
                self.assert_refused(BadMinds, Minds, kinds, pairs)


class MindRefused(RefusingCase):
    def test_either_kind_wrong(self):
        minds = Minds(3, [(0, 1)])
        for value in wrong_kinds(3):
            self.assert_refused(BadRow, minds.mind, value, 0)
            self.assert_refused(BadRow, minds.mind, 0, value)
            self.assert_refused(BadRow, minds.mind, 2, value)
            self.assert_refused(BadRow, minds.mind, value, value)

    def test_true_and_false_are_no_kinds(self):
        minds = Minds(2, [(0, 1)])
        for one, other in ((True, True), (False, False), (False, 1), (0, True)):
            self.assert_refused(BadRow, minds.mind, one, other)

    def test_the_count_of_kinds_is_no_kind(self):
        for kinds in (1, 2, 5):
            minds = Minds(kinds, [])
            self.assert_refused(BadRow, minds.mind, kinds, kinds)
            self.assert_refused(BadRow, minds.mind, 0, kinds)
            self.assert_refused(BadRow, minds.mind, kinds, 0)


if __name__ == "__main__":
    unittest.main()
