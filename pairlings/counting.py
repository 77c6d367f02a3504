"""Counting: how many pairings there are, and their numbers in the order of their walks."""

from pairlings.errors import NoNumber, TooMany
from pairlings.walks import BEGINNING, LONE, height_behind, paired_along, walk_of

MOST_POINTS_WITH = 14


# The last point is lone, or it is paired with one of the others and the rest is paired anyhow.
def how_many(points):
    with_one_less = 0
    count = 1
    for others in range(points):
        with_one_more = count + others * with_one_less
        with_one_less = count
        count = with_one_more
    return count


# All walks are gone along at once; those of one height with as many pairs, crossings and nestings
# so far can go on in the same ways, so only their number is kept.
def how_many_with(points, pairs, crossings, nestings):
    if points > MOST_POINTS_WITH:
        raise TooMany("there are more than 14 points")
    counts = {(0, 0, 0, 0): 1}
    for left in range(points - 1, -1, -1):
        counts = counts_behind(counts, left)
    return counts.get((0, pairs, crossings, nestings), 0)


# With more pairs open than points left, not all of them can end.
def counts_behind(counts, left):
    behind = {}
    for state, count in counts.items():
        for further in states_behind(state):
            if further[0] <= left:
                behind[further] = behind.get(further, 0) + count
    return behind


# A state holds the height, and the pairs begun, the crossings and the nestings told so far.
def states_behind(state):
    height = state[0]
    pairs = state[1]
    found = [state, (height + 1, pairs + 1, state[2], state[3])]
    for nested in range(height):
        crossed = height - 1 - nested
        found.append((height - 1, pairs, state[2] + crossed, state[3] + nested))
    return found


# The refusal shows no number: one of some thousand figures can't be written out.
def told(points, number):
    if number < 0 or number >= how_many(points):
        raise NoNumber("no pairing of these points has this number")
    walk = []
    height = 0
    rest = number
    for left in range(points - 1, -1, -1):
        step = step_for(rest, left, height)
        walk.append(step)
        rest = rest - ways_ahead(step, left, height)
        height = height_behind(step, height)
    return paired_along(walk)


def number_of(pairing):
    number = 0
    height = 0
    left = pairing[0]
    for step in walk_of(pairing):
        left = left - 1
        number = number + ways_ahead(step, left, height)
        height = height_behind(step, height)
    return number


def step_for(rest, left, height):
    if rest < ways_ahead(BEGINNING, left, height):
        return LONE
    if rest < ways_ahead(0, left, height):
        return BEGINNING
    return (rest - ways_ahead(0, left, height)) // ways_on(left, height - 1)


# How many walks take a lesser step than this one, of those that are alike up to here.
def ways_ahead(step, left, height):
    if step == LONE:
        return 0
    if step == BEGINNING:
        return ways_on(left, height)
    return ways_on(left, height) + ways_on(left, height + 1) + step * ways_on(left, height - 1)


# Each open pair ends at one of the points left, no two at the same; the others are paired anyhow.
# With more pairs open than points left one factor is 0.
def ways_on(left, height):
    ways = how_many(left - height)
    for taken in range(height):
        ways = ways * (left - taken)
    return ways
