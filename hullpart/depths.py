"""How deep a spot lies among points, and a spot that lies deep among few."""

from hullpart.errors import NoMiddle
from hullpart.parting import four_parted
from hullpart.places import check_points, check_spot, lowest, worth

MOST_ROUND_MIDDLE = 6


def depth(points, spot):
    check_points(points)
    check_spot(spot)
    lines = [line_through(spot, way) for way in ways_to_try(points, spot)]
    return min([(count_along(points, line), line) for line in lines])


def middle(points):
    check_points(points)
    if len(points) == 0 or len(points) > MOST_ROUND_MIDDLE:
        raise NoMiddle(f"no points, or more than {MOST_ROUND_MIDDLE}")
    # A point's own place has a depth of one at least, and that is a third of three.
    if len(points) <= 3:
        return (points[0][0], points[0][1], 1)
    # Whatever half-plane has a spot of two hulls has a point of either list, and two is a third of six.
    return four_parted(points[:4])[2]


# Its worth is nought at the spot and grows along the way, which is a tuple (a, b), not both nought.
def line_through(spot, way):
    return lowest((way[0] * spot[2], way[1] * spot[2], -way[0] * spot[0] - way[1] * spot[1]))


def count_along(points, line):
    return len([point for point in points if worth(line, point) >= 0])


# A line with the spot ahead of it, drawn back to the spot, gains no points, so lines through the spot are enough. As
# their way turns round, the count changes only where the way is square to a point's step, and there it is no less than
# beside it: so one way between each two neighbouring squares is enough, and the two added up lie there. Where all
# steps lie on one way, neighbouring squares add up to nothing, and the steps themselves lie between.
def ways_to_try(points, spot):
    steps = [step_to(point, spot) for point in points]
    back = [(-step[0], -step[1]) for step in steps]
    squares = [(-step[1], step[0]) for step in steps + back]
    ways = steps + back + pair_sums(squares)
    # With no points, or each of them at the spot, every way will do, but there must be one.
    return [(1, 0)] + [way for way in ways if way != (0, 0)]


# From the spot to the point, times the spot's below.
def step_to(point, spot):
    return (point[0] * spot[2] - spot[0], point[1] * spot[2] - spot[1])


def pair_sums(steps):
    sums = []
    for number, step in enumerate(steps):
        for other in steps[:number]:
            sums.append((step[0] + other[0], step[1] + other[1]))
    return sums
