"""Walks: a pairing told point by point, and the pairing that a walk tells.

The height at a point of a walk is how many pairs are open there.
"""

from pairlings.errors import NoWalk
from pairlings.pairings import MOST_POINTS

LONE = "lone"
BEGINNING = "open"


# The open pairs are kept in the order of their beginnings, so the place of one among them
# is how many of them began ahead of it.
def walk_of(pairing):
    partners = partners_in(pairing[1])
    begun = []
    walk = []
    for point in range(pairing[0]):
        partner = partners.get(point, point)
        if partner == point:
            walk.append(LONE)
        elif partner > point:
            begun.append(point)
            walk.append(BEGINNING)
        else:
            place = begun.index(partner)
            begun.pop(place)
            walk.append(place)
    return walk


def partners_in(pairs):
    partners = {}
    for beginning, end in pairs:
        partners[beginning] = end
        partners[end] = beginning
    return partners


def pairing_of(walk):
    if len(walk) > MOST_POINTS:
        raise NoWalk("there are more than 60 points")
    return paired_along(walk)


# The refusals show no step: a number of some thousand figures can't be written out.
def paired_along(walk):
    begun = []
    pairs = []
    for point, step in enumerate(walk):
        if step == BEGINNING:
            begun.append(point)
        elif step != LONE:
            refuse_wrong_end(step, len(begun))
            pairs.append((begun.pop(step), point))
    if len(begun) > 0:
        raise NoWalk("a pair is still open behind the last point")
    return (len(walk), tuple(sorted(pairs)))


def refuse_wrong_end(step, height):
    if isinstance(step, str):
        raise NoWalk("a text is neither lone nor open")
    if step < 0 or step >= height:
        raise NoWalk("a number is not from 0 to one less than there are open pairs")


def turned(pairing):
    height = 0
    walk = []
    for step in walk_of(pairing):
        walk.append(turned_step(step, height))
        height = height_behind(step, height)
    return paired_along(walk)


def turned_step(step, height):
    if step == LONE or step == BEGINNING:
        return step
    return height - 1 - step


def height_behind(step, height):
    if step == LONE:
        return height
    if step == BEGINNING:
        return height + 1
    return height - 1
