"""The pieces of a pairing: its tangles, a longest nest, and as few layers as can be."""

from pairlings.pairings import do_cross, do_nest


def tangles(pairing):
    parted = []
    for pair in pairing[1]:
        parted = parted_with(parted, pair)
    return sorted([sorted(tangle) for tangle in parted])


# A pair makes one tangle of all those that it crosses, and leaves the others as they are.
def parted_with(parted, pair):
    own = [pair]
    others = []
    for tangle in parted:
        if any([do_cross(earlier, pair) for earlier in tangle]):
            own.extend(tangle)
        else:
            others.append(tangle)
    others.append(own)
    return others


def longest_nest(pairing):
    return max(nests_down_to_each(pairing[1]), key=len, default=[])


# A pair's nest is longer than that of any pair around it, so pairs with nests of one length
# don't nest. A nest without its innermost pair is the nest of an earlier pair, so the layer
# that a nest asks for is at most the next one.
def layers(pairing):
    parted = []
    for nest in nests_down_to_each(pairing[1]):
        if len(nest) > len(parted):
            parted.append([])
        parted[len(nest) - 1].append(nest[-1])
    return parted


# A longest nest for each pair as its innermost. The pairs around a pair begin ahead of it,
# so in the sorted order their nests are there already.
def nests_down_to_each(pairs):
    nests = []
    for inner in pairs:
        around = [nest for nest in nests if do_nest(nest[-1], inner)]
        nests.append(max(around, key=len, default=[]) + [inner])
    return nests
