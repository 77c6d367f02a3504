"""Pairings: which tuples are one, their lone points, and how many twos of their pairs cross or nest.

A pairing is a tuple (points, pairs): how many points there are, and the sorted tuple of its pairs,
each a tuple of two points, the lesser one first.
"""

from pairlings.errors import NoPairing

MOST_POINTS = 60


# The refusals show no number: one of some thousand figures can't be written out.
def looked(pairing):
    points = pairing[0]
    pairs = pairing[1]
    if points < 0 or points > MOST_POINTS:
        raise NoPairing("the number of points is not from 0 to 60")
    for pair in pairs:
        refuse_wrong_points(points, pair)
    refuse_shared_points(pairs)
    refuse_unsorted(pairs)
    return len(pairs)


def refuse_wrong_points(points, pair):
    if pair[0] < 0 or pair[1] >= points:
        raise NoPairing("a pair has a point that is not there")
    if pair[0] >= pair[1]:
        raise NoPairing("the first point of a pair is not the lesser one")


def refuse_shared_points(pairs):
    if len(points_in(pairs)) < 2 * len(pairs):
        raise NoPairing("a point is in two pairs")


def refuse_unsorted(pairs):
    if list(pairs) != sorted(pairs):
        raise NoPairing("the pairs are not sorted")


def points_in(pairs):
    paired = {}
    for pair in pairs:
        paired[pair[0]] = True
        paired[pair[1]] = True
    return paired


def lone(pairing):
    paired = points_in(pairing[1])
    return [point for point in range(pairing[0]) if point not in paired]


def crossings(pairing):
    return len([two for two in twos_of(pairing[1]) if do_cross(two[0], two[1])])


def nestings(pairing):
    return len([two for two in twos_of(pairing[1]) if do_nest(two[0], two[1])])


# The pairs are sorted, so the earlier one of each two is the one that begins first.
def twos_of(pairs):
    twos = []
    for place, earlier in enumerate(pairs):
        for later in pairs[place + 1:]:
            twos.append((earlier, later))
    return twos


def do_cross(earlier, later):
    return later[0] < earlier[1] and earlier[1] < later[1]


def do_nest(earlier, later):
    return later[1] < earlier[1]
