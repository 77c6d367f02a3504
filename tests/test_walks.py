"""Promises 5, 6 and 7: walks, sums over them, and pairings turned."""

import itertools
import unittest

import helper
from pairlings import errors
from pairlings.pairings import crossings, lone, nestings
from pairlings.walks import pairing_of, turned, walk_of

HUGE = 10 ** 5000
OTHERS = (errors.NoPairing, errors.NoNumber, errors.TooMany, errors.BadNote)


class WalkOfTest(unittest.TestCase):
    def test_ordinary(self):
        self.assertEqual(walk_of((5, ((0, 3), (2, 4)))), ["open", "lone", "open", 0, 0])
        self.assertEqual(walk_of((4, ((0, 2), (1, 3)))), ["open", "open", 0, 0])
        self.assertEqual(walk_of((4, ((0, 3), (1, 2)))), ["open", "open", 1, 0])
        self.assertEqual(walk_of((6, ((0, 5), (1, 3), (2, 4)))), ["open", "open", "open", 1, 1, 0])
        self.assertEqual(walk_of((6, ((0, 1), (2, 5), (3, 4)))), ["open", 0, "open", "open", 1, 0])

    def test_pairs_that_ended_ahead_do_not_count(self):
        self.assertEqual(walk_of((6, ((0, 3), (1, 5), (2, 4)))), ["open", "open", "open", 0, 1, 0])

    def test_of_no_points(self):
        self.assertEqual(walk_of((0, ())), [])

    def test_of_lone_points_alone(self):
        for points in range(61):
            self.assertEqual(walk_of((points, ())), ["lone"] * points)

    def test_of_sixty_points(self):
        self.assertEqual(walk_of(helper.SIDE_BY_SIDE), ["open", 0] * 30)
        self.assertEqual(walk_of(helper.ALL_CROSS), ["open"] * 30 + [0] * 30)
        self.assertEqual(walk_of(helper.ALL_NEST), ["open"] * 30 + list(range(29, -1, -1)))

    def test_against_a_plain_walk(self):
        for pairing in helper.few_points() + helper.many_points():
            self.assertEqual(walk_of(pairing), helper.plain_walk(pairing), pairing)

    def test_no_two_pairings_have_one_walk(self):
        for points in range(9):
            walks = {tuple(walk_of(pairing)) for pairing in helper.all_pairings(points)}
            self.assertEqual(len(walks), len(helper.all_pairings(points)))

    def test_kinds(self):
        walk = walk_of((5, ((0, 3), (2, 4))))
        self.assertIs(type(walk), list)
        self.assertEqual([type(step) for step in walk], [str, str, str, int, int])

    def test_told_list_is_the_askers_own(self):
        for pairing in ((5, ((0, 3), (2, 4))), (0, ()), (3, ())):
            walk = walk_of(pairing)
            before = list(walk)
            walk.append("changed")
            walk[0] = 7
            self.assertEqual(walk_of(pairing), before)
            self.assertIsNot(walk_of(pairing), walk_of(pairing))


class PairingOfTest(unittest.TestCase):
    def refused(self, walk):
        before = list(walk)
        with self.assertRaises(errors.PairError) as caught:
            pairing_of(walk)
        self.assertIsInstance(caught.exception, errors.NoWalk)
        self.assertIsInstance(caught.exception, ValueError)
        self.assertNotIsInstance(caught.exception, OTHERS)
        self.assertTrue(walk == before)

    def test_ordinary(self):
        self.assertEqual(pairing_of(["open", "lone", "open", 0, 0]), (5, ((0, 3), (2, 4))))
        self.assertEqual(pairing_of(["open", "open", 1, 0]), (4, ((0, 3), (1, 2))))
        self.assertEqual(pairing_of(["open", "open", 0, 0]), (4, ((0, 2), (1, 3))))

    def test_edges(self):
        self.assertEqual(pairing_of([]), (0, ()))
        for points in range(61):
            self.assertEqual(pairing_of(["lone"] * points), (points, ()))
        self.assertEqual(pairing_of(["open"] * 30 + [0] * 30), helper.ALL_CROSS)
        self.assertEqual(pairing_of(["open"] * 30 + list(range(29, -1, -1))), helper.ALL_NEST)

    def test_kinds(self):
        pairing = pairing_of(["open", "open", 1, 0])
        self.assertIs(type(pairing), tuple)
        self.assertIs(type(pairing[0]), int)
        self.assertIs(type(pairing[1]), tuple)
        self.assertEqual([type(pair) for pair in pairing[1]], [tuple, tuple])

    def test_gives_the_pairing_back(self):
        for pairing in helper.few_points() + helper.many_points():
            self.assertEqual(pairing_of(walk_of(pairing)), pairing)
            self.assertEqual(pairing_of(helper.plain_walk(pairing)), pairing)

    def test_each_list_of_few_steps(self):
        found = 0
        for points in range(7):
            for steps in itertools.product(["lone", "open", -1, 0, 1, 2, 3], repeat=points):
                walk = list(steps)
                if helper.is_walk(walk):
                    found += 1
                    self.assertEqual(walk_of(pairing_of(walk)), walk)
                else:
                    self.assertRaises(errors.NoWalk, pairing_of, walk)
        self.assertEqual(found, 1 + 1 + 2 + 4 + 10 + 26 + 76)

    def test_each_number_at_an_end_of_many(self):
        for number in range(-3, 34):
            walk = ["open"] * 30 + [number] + [0] * 29
            if 0 <= number < 30:
                self.assertEqual(walk_of(pairing_of(walk)), walk)
            else:
                self.refused(walk)

    def test_another_text(self):
        for text in ("", "Lone", "OPEN", "lone ", " open", "close", "0", "-1", "lon", "opens", "open\n", "x" * 1000):
            self.refused([text])
            self.refused(["open", text])
            self.refused(["open", text, 0])
            self.refused(["lone", text, "lone"])

    def test_number_below_nought(self):
        for number in (-1, -2, -60, -10 ** 20, -HUGE):
            self.refused([number])
            self.refused(["open", number])
            self.refused(["open", "open", number, 0])
            self.refused(["open", "open", 0, number])

    def test_number_as_great_as_there_are_open_pairs_or_beyond(self):
        for number in (2, 3, 59, 60, 10 ** 20, HUGE):
            self.refused(["open", "open", number, 0])
            self.refused(["open", "lone", "open", 0, number - 1])
        self.refused(["open", 1])
        self.refused(["open", "open", 0, 1])

    def test_number_with_no_pair_open(self):
        self.refused([0])
        self.refused([0, "open"])
        self.refused(["lone", 0])
        self.refused(["open", 0, 0])
        self.refused(["open", "open", 1, 0, "lone", 0])
        self.refused([HUGE])

    def test_pair_still_open_behind_the_last_point(self):
        self.refused(["open"])
        self.refused(["open", "lone"])
        self.refused(["open", "open", 0])
        self.refused(["open", 0, "open"])
        self.refused(["open"] * 60)
        self.refused(["open"] * 30 + [0] * 29 + ["lone"])

    def test_more_than_sixty_points(self):
        for points in (61, 62, 80, 100):
            self.refused(["lone"] * points)
            self.refused(["open", 0] + ["lone"] * (points - 2))
            self.refused(["lone"] * (points - 2) + ["open", 0])
            self.refused(["open"] * points)
            self.refused([0] * points)
            self.refused(["other"] * points)
        self.refused(["open", 0] * 50)

    def test_walk_handed_in_stays_and_may_be_changed(self):
        walk = ["open", "lone", "open", 0, 0]
        pairing = pairing_of(walk)
        self.assertEqual(walk, ["open", "lone", "open", 0, 0])
        walk[1] = "open"
        walk.append(0)
        self.assertEqual(pairing, (5, ((0, 3), (2, 4))))
        self.assertEqual(pairing_of(walk), (6, ((0, 3), (1, 4), (2, 5))))
        walk.clear()
        self.assertEqual(pairing_of(["open", "lone", "open", 0, 0]), (5, ((0, 3), (2, 4))))


class SumsTest(unittest.TestCase):
    def test_crossings_and_nestings_are_sums_over_the_walk(self):
        for pairing in helper.few_points() + helper.many_points():
            walk = walk_of(pairing)
            ends = [(helper.open_at(walk, point), step) for point, step in enumerate(walk) if type(step) is int]
            self.assertEqual(nestings(pairing), sum(number for height, number in ends))
            self.assertEqual(crossings(pairing), sum(height - 1 - number for height, number in ends))


class TurnedTest(unittest.TestCase):
    def test_ordinary(self):
        self.assertEqual(turned((4, ((0, 2), (1, 3)))), (4, ((0, 3), (1, 2))))
        self.assertEqual(turned((4, ((0, 3), (1, 2)))), (4, ((0, 2), (1, 3))))
        self.assertEqual(turned((5, ((0, 3), (2, 4)))), (5, ((0, 4), (2, 3))))
        self.assertEqual(turned((6, ((0, 5), (1, 3), (2, 4)))), (6, ((0, 4), (1, 3), (2, 5))))

    def test_unlike_only_where_two_pairs_are_open(self):
        for pairing in ((0, ()), (1, ()), (60, ()), (60, ((0, 59),)), helper.SIDE_BY_SIDE):
            self.assertEqual(turned(pairing), pairing)

    def test_of_sixty_points(self):
        self.assertEqual(turned(helper.ALL_CROSS), helper.ALL_NEST)
        self.assertEqual(turned(helper.ALL_NEST), helper.ALL_CROSS)

    def test_walk_of_it(self):
        for pairing in helper.few_points() + helper.many_points():
            walk = helper.plain_walk(pairing)
            other = [step if type(step) is str else helper.open_at(walk, point) - 1 - step
                     for point, step in enumerate(walk)]
            self.assertEqual(helper.plain_walk(turned(pairing)), other)

    def test_crossings_and_nestings_exchanged(self):
        for pairing in helper.few_points() + helper.many_points():
            other = turned(pairing)
            self.assertEqual(crossings(other), nestings(pairing))
            self.assertEqual(nestings(other), crossings(pairing))

    def test_same_lone_points_beginnings_and_ends(self):
        for pairing in helper.few_points() + helper.many_points():
            other = turned(pairing)
            self.assertEqual(other[0], pairing[0])
            self.assertEqual(lone(other), lone(pairing))
            for place in (0, 1):
                self.assertEqual(sorted(p[place] for p in other[1]), sorted(p[place] for p in pairing[1]))

    def test_turned_twice(self):
        for pairing in helper.few_points() + helper.many_points():
            self.assertEqual(turned(turned(pairing)), pairing)


if __name__ == "__main__":
    unittest.main()
