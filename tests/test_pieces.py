"""Promises 3 and 4: tangles, nests and layers."""

import unittest

import helper
from pairlings.pieces import layers, longest_nest, tangles

SOME = [
    (0, ()),
    (3, ()),
    (2, ((0, 1),)),
    (5, ((0, 3), (2, 4))),
    (8, ((0, 7), (1, 3), (2, 4), (5, 6))),
    helper.SIDE_BY_SIDE,
    helper.ALL_CROSS,
    helper.ALL_NEST,
]


class OwnLists(unittest.TestCase):
    def check_own_lists(self, ask):
        """Each list told by ask, the outer one and those in it, can be changed and is no other one."""
        for pairing in SOME:
            first, second = ask(pairing), ask(pairing)
            before = [list(piece) for piece in second]
            told = [first, second] + first + second
            for piece in told:
                self.assertIs(type(piece), list)
            self.assertEqual(len({id(piece) for piece in told}), len(told))
            for piece in list(first):
                piece.append("changed")
            first.append("changed")
            self.assertEqual(second, before)
            self.assertEqual(ask(pairing), before)


class TanglesTest(OwnLists):
    def test_ordinary(self):
        self.assertEqual(tangles((5, ((0, 3), (2, 4)))), [[(0, 3), (2, 4)]])
        self.assertEqual(tangles((4, ((0, 1), (2, 3)))), [[(0, 1)], [(2, 3)]])
        self.assertEqual(tangles((4, ((0, 3), (1, 2)))), [[(0, 3)], [(1, 2)]])
        self.assertEqual(tangles((9, ((1, 7),))), [[(1, 7)]])

    def test_no_pairs(self):
        self.assertEqual(tangles((0, ())), [])
        self.assertEqual(tangles((60, ())), [])

    def test_all_in_one(self):
        self.assertEqual(tangles(helper.ALL_CROSS), [list(helper.ALL_CROSS[1])])

    def test_each_by_itself(self):
        for pairing in (helper.SIDE_BY_SIDE, helper.ALL_NEST):
            self.assertEqual(tangles(pairing), [[pair] for pair in pairing[1]])

    def test_together_by_way_of_others(self):
        chain = ((0, 2), (1, 4), (3, 6), (5, 8), (7, 9))
        self.assertEqual(tangles((10, chain)), [list(chain)])
        # The last pair to begin is the only one that the two others cross.
        late = ((0, 5), (1, 4), (3, 7))
        self.assertEqual(tangles((8, late)), [[(0, 5), (1, 4), (3, 7)]])
        # The one pair that ties the two others begins first of all.
        early = ((0, 4), (1, 7), (2, 6))
        self.assertEqual(tangles((8, early)), [[(0, 4), (1, 7), (2, 6)]])

    def test_long_chain(self):
        chain = ((0, 2),) + tuple((2 * k + 1, 2 * k + 4) for k in range(28)) + ((57, 59),)
        self.assertEqual(tangles((60, chain)), [list(chain)])

    def test_tangle_within_another(self):
        outer = [(0, 8), (7, 10)]
        inner = [(1, 3), (2, 4)]
        innermost = [(5, 6)]
        pairing = (11, tuple(sorted(outer + inner + innermost)))
        self.assertEqual(tangles(pairing), [outer, inner, innermost])

    def test_order_where_a_late_pair_joins_early_ones(self):
        pairing = (12, ((0, 9), (1, 3), (2, 4), (5, 7), (6, 11), (8, 10)))
        self.assertEqual(tangles(pairing), [[(0, 9), (5, 7), (6, 11), (8, 10)], [(1, 3), (2, 4)]])

    def test_against_plain_tangles(self):
        for pairing in helper.few_points() + helper.many_points():
            self.assertEqual(tangles(pairing), helper.plain_tangles(pairing[1]), pairing)

    def test_told_lists_are_the_askers_own(self):
        self.check_own_lists(tangles)


class NestsAndLayersTest(OwnLists):
    def check(self, pairing):
        nest = longest_nest(pairing)
        parted = layers(pairing)
        self.assertIs(type(nest), list)
        self.assertIs(type(parted), list)
        for pair in nest:
            self.assertIn(pair, pairing[1])
        for outer, inner in zip(nest, nest[1:]):
            self.assertTrue(helper.within(inner, outer), (pairing, nest))
        self.assertEqual(sorted(pair for layer in parted for pair in layer), list(pairing[1]))
        for layer in parted:
            self.assertIs(type(layer), list)
            self.assertNotEqual(layer, [])
            self.assertEqual(helper.count_twos(layer, helper.within), 0, (pairing, layer))
        # Pairs of a nest are all in layers of their own, so with as many of both, neither can be bettered.
        self.assertEqual(len(nest), len(parted), pairing)
        return len(nest)

    def test_no_pairs(self):
        for points in (0, 1, 60):
            self.assertEqual(longest_nest((points, ())), [])
            self.assertEqual(layers((points, ())), [])

    def test_outermost_first(self):
        self.assertEqual(longest_nest((4, ((0, 3), (1, 2)))), [(0, 3), (1, 2)])
        self.assertEqual(longest_nest(helper.ALL_NEST), list(helper.ALL_NEST[1]))

    def test_ordinary(self):
        self.assertEqual(self.check((5, ((0, 3), (2, 4)))), 1)
        self.assertEqual(self.check((7, ((2, 5),))), 1)
        # The longest nest is not the one that starts with the first pair.
        self.assertEqual(self.check((10, ((0, 3), (1, 2), (4, 9), (5, 8), (6, 7)))), 3)
        # Nor the one that takes the nearest pair within each time.
        self.assertEqual(self.check((10, ((0, 9), (1, 3), (2, 8), (4, 7), (5, 6)))), 4)

    def test_sixty_points(self):
        self.assertEqual(self.check(helper.SIDE_BY_SIDE), 1)
        self.assertEqual(self.check(helper.ALL_CROSS), 1)
        self.assertEqual(self.check(helper.ALL_NEST), 30)

    def test_few_points(self):
        for pairing in helper.few_points():
            self.assertEqual(self.check(pairing), helper.longest_chain(pairing[1]), pairing)

    def test_many_points(self):
        lengths = {self.check(pairing) for pairing in helper.many_points()}
        self.assertGreater(len(lengths), 5)

    def test_told_nest_is_the_askers_own(self):
        for pairing in SOME:
            told = longest_nest(pairing)
            before = list(told)
            told.append("changed")
            self.assertEqual(longest_nest(pairing), before)
            self.assertIsNot(longest_nest(pairing), longest_nest(pairing))

    def test_told_layers_are_the_askers_own(self):
        self.check_own_lists(layers)


if __name__ == "__main__":
    unittest.main()
