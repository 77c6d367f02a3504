"""Pairings to ask about, and plain answers to hold the program's against."""

# All points of a pairing of 60 in one of three plain ways.
SIDE_BY_SIDE = (60, tuple((2 * k, 2 * k + 1) for k in range(30)))
ALL_CROSS = (60, tuple((k, k + 30) for k in range(30)))
ALL_NEST = (60, tuple((k, 59 - k) for k in range(30)))


def all_pairings(points):
    return [(points, tuple(sorted(pairs))) for pairs in parted(list(range(points)))]


def parted(points):
    if not points:
        return [[]]
    first, rest = points[0], points[1:]
    found = list(parted(rest))
    for other in rest:
        left = [point for point in rest if point != other]
        found.extend([(first, other)] + pairs for pairs in parted(left))
    return found


def few_points():
    return [pairing for points in range(9) for pairing in all_pairings(points)]


def many_points():
    """Pairings of 55 to 60 points with 1 to 30 pairs, scattered by products modulo the prime 61."""
    found = [SIDE_BY_SIDE, ALL_CROSS, ALL_NEST, (60, ())]
    for factor in range(2, 60):
        for points in (55, 58, 60):
            order = [place * place * factor % 61 for place in range(1, 61)]
            order = sorted(range(points), key=lambda point: (order[point], point * factor % 61))
            for pairs in (1, 9, 20, points // 2):
                found.append((points, scattered(order, pairs)))
    return found


def scattered(order, pairs):
    return tuple(sorted(tuple(sorted(order[2 * k:2 * k + 2])) for k in range(pairs)))


def cross(one, other):
    """Whether just one end of the other pair lies between the ends of the one."""
    between = [point for point in other if one[0] < point < one[1]]
    return one != other and len(between) == 1


def within(inner, outer):
    return outer[0] < inner[0] and inner[1] < outer[1]


def count_twos(pairs, holds):
    return sum(1 for one in pairs for other in pairs if holds(one, other))


def plain_tangles(pairs):
    left = list(pairs)
    found = []
    while left:
        tangle = [left.pop(0)]
        # The tangle grows while it is walked, until nothing left crosses one of it.
        for pair in tangle:
            tangle.extend(other for other in left if cross(pair, other))
            left = [other for other in left if other not in tangle]
        found.append(sorted(tangle))
    return found


def longest_chain(pairs):
    return max((1 + longest_chain([p for p in pairs if within(p, pair)]) for pair in pairs), default=0)


def plain_walk(pairing):
    """The walk by its words: at an end, the pairs that began ahead of this one and end behind this point."""
    points, pairs = pairing
    walk = ["lone"] * points
    for beginning, end in pairs:
        walk[beginning] = "open"
        walk[end] = sum(1 for pair in pairs if pair[0] < beginning and pair[1] > end)
    return walk


def walk_order(walk):
    return [{"lone": -2, "open": -1}.get(step, step) for step in walk]


def open_at(walk, point):
    """How many pairs are open at a point: those begun ahead of it, less those ended ahead of it."""
    return sum({"lone": 0, "open": 1}.get(step, -1) for step in walk[:point])


def is_walk(steps):
    for point, step in enumerate(steps):
        if step not in ("lone", "open") and step not in range(open_at(steps, point)):
            return False
    return len(steps) <= 60 and open_at(steps, len(steps)) == 0


def plain_note(pairing):
    return str(pairing[0]) + ":" + "".join(" " + str(first) + "-" + str(last) for first, last in pairing[1])
