"""Promises 8 and 9: the order and the numbers of pairings, and how many there are."""

import collections
import math
import time
import unittest

import helper
from pairlings import errors
from pairlings.counting import how_many, how_many_with, number_of, told
from pairlings.pairings import crossings, looked, nestings

HUGE = 10 ** 5000


def plain_how_many(points):
    """Over the numbers of pairs: which points are paired, times the ways of pairing all of these."""
    return sum(math.comb(points, 2 * pairs) * math.factorial(2 * pairs) // (2 ** pairs * math.factorial(pairs))
               for pairs in range(points // 2 + 1))


def plain_counts(points):
    counts = collections.Counter()
    for pairing in helper.all_pairings(points):
        crossed = helper.count_twos(pairing[1], helper.cross) // 2
        counts[len(pairing[1]), crossed, helper.count_twos(pairing[1], helper.within)] += 1
    return counts


class HowManyTest(unittest.TestCase):
    def test_few_points_against_a_plain_count(self):
        for points in range(10):
            self.assertEqual(how_many(points), len(helper.all_pairings(points)))

    def test_up_to_sixty_points(self):
        for points in range(61):
            self.assertEqual(how_many(points), plain_how_many(points))

    def test_some_by_figures(self):
        self.assertEqual([how_many(points) for points in range(7)], [1, 1, 2, 4, 10, 26, 76])
        self.assertEqual(how_many(14), 2390480)
        self.assertEqual(how_many(20), 23758664096)

    def test_kind_of_answer(self):
        self.assertIs(type(how_many(0)), int)
        self.assertIs(type(how_many(60)), int)


class HowManyWithTest(unittest.TestCase):
    def test_against_a_plain_count(self):
        for points in range(8):
            counts = plain_counts(points)
            for pairs in range(-1, 5):
                for crossed in range(-1, 8):
                    for nested in range(-1, 8):
                        self.assertEqual(how_many_with(points, pairs, crossed, nested),
                                         counts[pairs, crossed, nested], (points, pairs, crossed, nested))

    def test_all_of_them_together(self):
        for points in range(9):
            found = sum(how_many_with(points, pairs, crossed, nested)
                        for pairs in range(5) for crossed in range(7) for nested in range(7))
            self.assertEqual(found, how_many(points))

    def test_arguments_by_name(self):
        self.assertEqual(how_many_with(points=5, pairs=2, crossings=0, nestings=1), 5)
        self.assertEqual(how_many_with(6, 3, 1, 2), 2)
        self.assertEqual(how_many_with(6, 3, 2, 0), 1)

    def test_no_points(self):
        self.assertEqual(how_many_with(0, 0, 0, 0), 1)
        self.assertEqual(how_many_with(0, 1, 0, 0), 0)

    def test_nought_below_nought_and_far_beyond(self):
        for points in (0, 1, 4, 13, 14):
            for far in (-1, -2, -10 ** 20, -HUGE, 50, 10 ** 20, HUGE):
                self.assertEqual(how_many_with(points, far, 0, 0), 0)
                self.assertEqual(how_many_with(points, 0, far, 0), 0)
                self.assertEqual(how_many_with(points, 0, 0, far), 0)
                self.assertEqual(how_many_with(points, 2, far, 0), 0)
                self.assertEqual(how_many_with(points, far, far, far), 0)

    def test_crossings_and_nestings_exchanged(self):
        for points in (6, 9, 13, 14):
            for pairs in (3, 4, 7):
                for crossed in range(0, 22, 5):
                    for nested in range(crossed):
                        self.assertEqual(how_many_with(points, pairs, crossed, nested),
                                         how_many_with(points, pairs, nested, crossed))

    def test_fourteen_points(self):
        began = time.monotonic()
        self.assertEqual(how_many_with(14, 0, 0, 0), 1)
        self.assertEqual(how_many_with(14, 1, 0, 0), 91)
        self.assertEqual(how_many_with(14, 2, 1, 0), 1001)
        self.assertEqual(how_many_with(14, 7, 21, 0), 1)
        self.assertEqual(how_many_with(14, 7, 0, 21), 1)
        self.assertEqual(how_many_with(14, 7, 21, 1), 0)
        self.assertEqual(how_many_with(14, 8, 0, 0), 0)
        # Seven pairs without a crossing are as many as the seventh Catalan number.
        self.assertEqual(sum(how_many_with(14, 7, 0, nested) for nested in range(22)), 429)
        self.assertLess(time.monotonic() - began, 60)

    def test_lone_points_lie_anywhere(self):
        for points in range(8, 15):
            self.assertEqual(how_many_with(points, 4, 2, 1), math.comb(points, 8) * how_many_with(8, 4, 2, 1))
        self.assertGreater(how_many_with(8, 4, 2, 1), 0)

    def test_too_many(self):
        numbers = (0, 1, 7, -1, -10 ** 20, 10 ** 20, HUGE, -HUGE)
        for points in (15, 16, 20, 59, 60):
            for pairs in numbers:
                for crossed in numbers:
                    with self.assertRaises(errors.PairError) as caught:
                        how_many_with(points, pairs, crossed, 0)
                    self.assertIsInstance(caught.exception, errors.TooMany)
                    self.assertRaises(errors.TooMany, how_many_with, points, pairs, 0, crossed)

    def test_refusal_is_none_of_the_others(self):
        with self.assertRaises(ValueError) as caught:
            how_many_with(15, 1, 0, 0)
        self.assertIsInstance(caught.exception, errors.TooMany)
        others = (errors.NoPairing, errors.NoWalk, errors.NoNumber, errors.BadNote)
        self.assertNotIsInstance(caught.exception, others)

    def test_kind_of_answer(self):
        self.assertIs(type(how_many_with(14, 7, 3, 3)), int)
        self.assertIs(type(how_many_with(14, -1, 3, 3)), int)


class NumbersTest(unittest.TestCase):
    def some_numbers(self, points):
        count = how_many(points)
        return sorted({number % count for number in [0, 1, 2, -1, -2, count // 2]
                       + [count * part // 101 for part in range(1, 101)]})

    def test_ordinary(self):
        self.assertEqual([told(3, number) for number in range(4)],
                         [(3, ()), (3, ((1, 2),)), (3, ((0, 2),)), (3, ((0, 1),))])
        self.assertEqual(number_of((4, ((0, 2), (1, 3)))), 6)
        self.assertEqual(number_of((4, ((0, 3), (1, 2)))), 7)

    def test_all_of_few_points_in_the_order_of_their_walks(self):
        for points in range(10):
            pairings = helper.all_pairings(points)
            pairings.sort(key=lambda pairing: helper.walk_order(helper.plain_walk(pairing)))
            self.assertEqual([told(points, number) for number in range(len(pairings))], pairings)
            self.assertEqual([number_of(pairing) for pairing in pairings], list(range(len(pairings))))

    def test_first_and_last(self):
        for points in range(61):
            first = (points, ())
            self.assertEqual(told(points, 0), first)
            self.assertEqual(number_of(first), 0)
            # In the last walk each pair ends as soon as it can; a point left over is the last one.
            last = (points, helper.SIDE_BY_SIDE[1][:points // 2])
            self.assertEqual(told(points, how_many(points) - 1), last)
            self.assertEqual(number_of(last), how_many(points) - 1)

    def test_numbers_of_many_points(self):
        for points in (25, 59, 60):
            for number in self.some_numbers(points):
                pairing = told(points, number)
                self.assertEqual(pairing[0], points)
                looked(pairing)
                self.assertEqual(number_of(pairing), number)

    def test_pairings_of_many_points(self):
        for pairing in helper.many_points():
            number = number_of(pairing)
            self.assertTrue(0 <= number < how_many(pairing[0]))
            self.assertEqual(told(pairing[0], number), pairing)

    def test_order_of_many_points(self):
        for points in (55, 58, 60):
            pairings = [pairing for pairing in set(helper.many_points()) if pairing[0] == points]
            by_walk = sorted(pairings, key=lambda pairing: helper.walk_order(helper.plain_walk(pairing)))
            self.assertEqual(sorted(pairings, key=number_of), by_walk)

    def test_numbers_side_by_side(self):
        for number in self.some_numbers(60)[1:]:
            ahead, behind = told(60, number - 1), told(60, number)
            self.assertLess(helper.walk_order(helper.plain_walk(ahead)),
                            helper.walk_order(helper.plain_walk(behind)))

    def test_no_number(self):
        for points in list(range(10)) + [14, 15, 59, 60]:
            count = how_many(points)
            for number in (-1, -2, -count, -count - 1, -10 ** 20, -10 ** 60, -HUGE,
                           count, count + 1, 2 * count, count + 10 ** 20, count * 10 ** 60, HUGE):
                with self.assertRaises(errors.PairError) as caught:
                    told(points, number)
                self.assertIsInstance(caught.exception, errors.NoNumber)
                self.assertIsInstance(caught.exception, ValueError)
                others = (errors.NoPairing, errors.NoWalk, errors.TooMany, errors.BadNote)
                self.assertNotIsInstance(caught.exception, others)
        self.assertRaises(errors.NoNumber, told, 20, 10 ** 20)

    def test_kinds(self):
        pairing = told(8, 500)
        self.assertIs(type(pairing), tuple)
        self.assertIs(type(pairing[0]), int)
        self.assertIs(type(pairing[1]), tuple)
        self.assertEqual({type(pair) for pair in pairing[1]}, {tuple})
        self.assertEqual({type(point) for pair in pairing[1] for point in pair}, {int})
        self.assertIs(type(number_of(pairing)), int)

    def test_counts_agree_with_the_pairings_told(self):
        found = collections.Counter()
        for number in range(how_many(10)):
            pairing = told(10, number)
            found[looked(pairing), crossings(pairing), nestings(pairing)] += 1
        for numbers, count in found.items():
            self.assertEqual(how_many_with(10, *numbers), count)


if __name__ == "__main__":
    unittest.main()
