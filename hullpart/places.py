"""Points, spots, lines and weighings: what the other modules share."""

from hullpart.errors import NoPoint, NoSpot

MOST_POINTS = 12
FARTHEST = 1000


def check_point(point):
    if len(point) != 2 or abs(point[0]) > FARTHEST or abs(point[1]) > FARTHEST:
        raise NoPoint(f"no point: {point}")


def check_points(points):
    if len(points) > MOST_POINTS:
        raise NoPoint(f"more than {MOST_POINTS} points")
    for point in points:
        check_point(point)


def check_spot(spot):
    if len(spot) != 3 or spot[2] <= 0 or lowest(spot) != spot:
        raise NoSpot(f"no spot: {spot}")


# Above nought where the third point lies to the left of the way from tail to head.
def turn(tail, head, point):
    return (head[0] - tail[0]) * (point[1] - tail[1]) - (head[1] - tail[1]) * (point[0] - tail[0])


# From nought to reach(tail, head, head) where the point lies between the two, if it is on their way.
def reach(tail, head, point):
    return (head[0] - tail[0]) * (point[0] - tail[0]) + (head[1] - tail[1]) * (point[1] - tail[1])


def worth(line, point):
    return line[0] * point[0] + line[1] * point[1] + line[2]


# Its worth at a point is turn(tail, head, point).
def line_along(tail, head):
    return (tail[1] - head[1], head[0] - tail[0], tail[0] * head[1] - tail[1] * head[0])


# Its worth is nought at the head and grows straight away from the tail, so it is below nought there.
def line_across(tail, head):
    a = head[0] - tail[0]
    b = head[1] - tail[1]
    return (a, b, -a * head[0] - b * head[1])


def greatest_divisor(one, other):
    while other > 0:
        rest = one % other
        one = other
        other = rest
    return one


# A spot stays where it is, and a line's worth stays above, at or below nought, if a common divisor is taken out.
def lowest(three):
    common = greatest_divisor(greatest_divisor(abs(three[0]), abs(three[1])), abs(three[2]))
    return (three[0] // common, three[1] // common, three[2] // common)


# The shares are tuples (number, share), no number twice, no share below nought, some share above it.
def weighing(shares):
    whole = sum([share for number, share in shares])
    weights = []
    for number, share in sorted(shares):
        if share > 0:
            common = greatest_divisor(share, whole)
            weights.append((number, share // common, whole // common))
    return weights
