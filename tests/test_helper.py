"""The plain answers themselves: were they empty or lopsided, other tests would say nothing."""

import unittest

import helper


class HelperTest(unittest.TestCase):
    def test_all_pairings_of_few_points(self):
        counts = [len(set(helper.all_pairings(points))) for points in range(9)]
        self.assertEqual(counts, [1, 1, 2, 4, 10, 26, 76, 232, 764])

    def test_pairings_of_many_points_are_pairings(self):
        found = helper.many_points()
        self.assertGreater(len(set(found)), 500)
        for points, pairs in found:
            ends = [point for pair in pairs for point in pair]
            self.assertEqual(len(set(ends)), 2 * len(pairs))
            self.assertTrue(all(0 <= first < last < points for first, last in pairs))
            self.assertEqual(list(pairs), sorted(pairs))

    def test_crossing_and_within(self):
        self.assertTrue(helper.cross((0, 2), (1, 3)) and helper.cross((1, 3), (0, 2)))
        self.assertFalse(helper.cross((0, 3), (1, 2)) or helper.cross((0, 1), (2, 3)))
        self.assertTrue(helper.within((1, 2), (0, 3)))
        self.assertFalse(helper.within((0, 3), (1, 2)) or helper.within((0, 2), (1, 3)))

    def test_plain_walks_and_notes(self):
        pairing = (6, ((0, 5), (1, 3), (2, 4)))
        walk = ["open", "open", "open", 1, 1, 0]
        self.assertEqual(helper.plain_walk(pairing), walk)
        self.assertEqual([helper.open_at(walk, point) for point in range(7)], [0, 1, 2, 3, 2, 1, 0])
        self.assertEqual(helper.walk_order(["lone"] + walk), [-2, -1, -1, -1, 1, 1, 0])
        self.assertEqual(helper.plain_note(pairing), "6: 0-5 1-3 2-4")

    def test_which_lists_are_walks(self):
        for walk in ([], ["lone"], ["open", 0], ["open", "lone", "open", 1, 0], ["lone"] * 60):
            self.assertTrue(helper.is_walk(walk))
        for steps in (["open"], [0], ["open", 1], ["open", -1], ["x"], ["open", 0, 0], ["lone"] * 61):
            self.assertFalse(helper.is_walk(steps))


if __name__ == "__main__":
    unittest.main()
