"""Promises 1 and 2: pairings, their lone points, crossings and nestings."""

import unittest

import helper
from pairlings import errors
from pairlings.pairings import crossings, lone, looked, nestings

HUGE = 10 ** 5000


class LookedTest(unittest.TestCase):
    def refused(self, points, pairs):
        with self.subTest(pairs=pairs if points not in (HUGE, -HUGE) else "huge"):
            with self.assertRaises(errors.PairError) as caught:
                looked((points, pairs))
            self.assertIs(type(caught.exception), errors.NoPairing)

    def test_ordinary(self):
        self.assertEqual(looked((5, ((0, 3), (2, 4)))), 2)
        self.assertEqual(looked((6, ((0, 5), (1, 2), (3, 4)))), 3)
        self.assertEqual(looked((2, ((0, 1),))), 1)
        self.assertEqual(looked((7, ((0, 6),))), 1)

    def test_kind_of_answer(self):
        self.assertIs(type(looked((2, ((0, 1),)))), int)
        self.assertIs(type(looked((0, ()))), int)

    def test_without_pairs(self):
        for points in range(61):
            self.assertEqual(looked((points, ())), 0)

    def test_sixty_points(self):
        self.assertEqual(looked((60, ((0, 59),))), 1)
        self.assertEqual(looked((60, ((58, 59),))), 1)
        for pairing in helper.many_points():
            self.assertEqual(looked(pairing), len(pairing[1]))

    def test_all_of_few_points(self):
        for pairing in helper.few_points():
            self.assertEqual(looked(pairing), len(pairing[1]))

    def test_each_tuple_of_up_to_two_pairs_of_four_points(self):
        good = set(helper.all_pairings(4))
        numbers = range(-1, 6)
        pairs = [(first, last) for first in numbers for last in numbers]
        for some in [()] + [(one,) for one in pairs] + [(one, other) for one in pairs for other in pairs]:
            if (4, some) in good:
                self.assertEqual(looked((4, some)), len(some))
            else:
                self.assertRaises(errors.NoPairing, looked, (4, some))

    def test_wrong_number_of_points(self):
        for points in (-1, -2, -60, 61, 62, 100, 10 ** 9, -10 ** 9, 10 ** 30, HUGE, -HUGE):
            self.refused(points, ())
            self.refused(points, ((0, 1),))
        self.refused(61, ((0, 60),))
        self.refused(61, ((0, 1),))

    def test_pair_with_a_point_that_is_not_there(self):
        self.refused(5, ((-1, 3),))
        self.refused(5, ((-2, -1),))
        self.refused(5, ((0, 5),))
        self.refused(5, ((0, 6),))
        self.refused(5, ((5, 6),))
        self.refused(5, ((0, 1), (2, 5)))
        self.refused(5, ((-1, 1), (2, 4)))
        self.refused(60, ((0, 60),))
        self.refused(0, ((0, 1),))
        self.refused(1, ((0, 1),))
        self.refused(60, ((0, 10 ** 30),))
        self.refused(60, ((-10 ** 30, 0),))

    def test_pair_with_a_point_far_beyond(self):
        for pair in ((0, HUGE), (-HUGE, 0), (-HUGE, HUGE), (HUGE, -HUGE), (HUGE, HUGE)):
            self.assertRaises(errors.NoPairing, looked, (60, (pair,)))

    def test_greater_point_first(self):
        self.refused(5, ((3, 0),))
        self.refused(5, ((1, 0),))
        self.refused(5, ((0, 3), (4, 2)))
        self.refused(5, ((5, 0),))

    def test_one_point_twice_in_a_pair(self):
        self.refused(5, ((0, 0),))
        self.refused(5, ((4, 4),))
        self.refused(5, ((0, 1), (3, 3)))

    def test_point_in_two_pairs(self):
        self.refused(5, ((0, 1), (0, 2)))
        self.refused(5, ((0, 1), (1, 2)))
        self.refused(5, ((0, 3), (1, 3)))
        self.refused(6, ((0, 3), (1, 2), (3, 4)))
        self.refused(6, ((0, 3), (1, 2), (2, 5)))

    def test_same_pair_twice(self):
        self.refused(5, ((0, 1), (0, 1)))
        self.refused(5, ((0, 1), (2, 3), (2, 3)))
        self.refused(5, ((0, 1), (2, 3), (0, 1)))

    def test_not_sorted(self):
        self.refused(5, ((2, 4), (0, 3)))
        self.refused(6, ((0, 1), (4, 5), (2, 3)))
        self.refused(6, ((1, 2), (0, 5), (3, 4)))
        self.refused(60, helper.ALL_NEST[1][::-1])

    def test_refusal_is_none_of_the_others(self):
        with self.assertRaises(ValueError) as caught:
            looked((61, ()))
        self.assertIsInstance(caught.exception, errors.NoPairing)
        self.assertIsInstance(caught.exception, errors.PairError)
        others = (errors.NoWalk, errors.NoNumber, errors.TooMany, errors.BadNote)
        self.assertNotIsInstance(caught.exception, others)


class LoneTest(unittest.TestCase):
    def test_ordinary(self):
        self.assertEqual(lone((5, ((0, 3), (2, 4)))), [1])
        self.assertEqual(lone((6, ((1, 4),))), [0, 2, 3, 5])

    def test_of_no_points(self):
        self.assertEqual(lone((0, ())), [])

    def test_none_lone(self):
        self.assertEqual(lone((4, ((0, 2), (1, 3)))), [])
        self.assertEqual(lone(helper.ALL_NEST), [])

    def test_all_lone(self):
        self.assertEqual(lone((1, ())), [0])
        self.assertEqual(lone((60, ())), list(range(60)))

    def test_rising_and_just_those_in_no_pair(self):
        for points, pairs in helper.few_points() + helper.many_points():
            paired = [point for pair in pairs for point in pair]
            self.assertEqual(lone((points, pairs)), sorted(set(range(points)) - set(paired)))

    def test_told_list_is_the_askers_own(self):
        for pairing in ((5, ((0, 3),)), (0, ()), (2, ((0, 1),)), (3, ())):
            told = lone(pairing)
            self.assertIs(type(told), list)
            before = list(told)
            told.append("changed")
            self.assertEqual(lone(pairing), before)
            self.assertIsNot(lone(pairing), lone(pairing))


class TwosTest(unittest.TestCase):
    def test_each_way_two_pairs_can_lie(self):
        self.assertEqual(self.counts((4, ((0, 1), (2, 3)))), (0, 0))
        self.assertEqual(self.counts((4, ((0, 2), (1, 3)))), (1, 0))
        self.assertEqual(self.counts((4, ((0, 3), (1, 2)))), (0, 1))

    def test_ordinary(self):
        self.assertEqual(self.counts((5, ((0, 3), (2, 4)))), (1, 0))
        self.assertEqual(self.counts((6, ((0, 5), (1, 3), (2, 4)))), (1, 2))
        self.assertEqual(self.counts((8, ((0, 4), (1, 7), (2, 3), (5, 6)))), (1, 3))

    def test_without_a_two(self):
        self.assertEqual(self.counts((0, ())), (0, 0))
        self.assertEqual(self.counts((60, ())), (0, 0))
        self.assertEqual(self.counts((60, ((0, 59),))), (0, 0))

    def test_thirty_pairs(self):
        self.assertEqual(self.counts(helper.SIDE_BY_SIDE), (0, 0))
        self.assertEqual(self.counts(helper.ALL_CROSS), (435, 0))
        self.assertEqual(self.counts(helper.ALL_NEST), (0, 435))

    def test_against_a_plain_count(self):
        for pairing in helper.few_points() + helper.many_points():
            # Each crossing is met from both of its pairs.
            crossed = helper.count_twos(pairing[1], helper.cross) // 2
            nested = helper.count_twos(pairing[1], helper.within)
            self.assertEqual(self.counts(pairing), (crossed, nested), pairing)

    def test_kind_of_answer(self):
        for pairing in ((0, ()), helper.ALL_CROSS, helper.ALL_NEST):
            self.assertIs(type(crossings(pairing)), int)
            self.assertIs(type(nestings(pairing)), int)

    def counts(self, pairing):
        return crossings(pairing), nestings(pairing)


if __name__ == "__main__":
    unittest.main()
