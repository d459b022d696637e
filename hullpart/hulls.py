"""The corners of points, and whether a point lies in their hull."""

from hullpart.places import check_point, check_points, line_across, line_along, reach, turn, weighing, worth


def corners(points):
    check_points(points)
    return corners_round(points)


def placed(points, point):
    check_points(points)
    check_point(point)
    ends = corners_round(points)
    line = shutting_line(ends, point)
    if line is not None:
        return ("out", line)
    shares = [(points.index(end), share) for end, share in shares_within(ends, point)]
    return ("in", weighing(shares))


def corners_round(points):
    rising = sorted(set(points))
    if len(rising) < 2:
        return rising
    # Each side's last corner is the other side's first.
    return side_of(rising)[:-1] + side_of(list(reversed(rising)))[:-1]


def side_of(points):
    side = []
    for point in points:
        # A point straight on the way between two others is no corner, so it goes too.
        while len(side) > 1 and turn(side[-2], side[-1], point) <= 0:
            side.pop()
        side.append(point)
    return side


def shutting_line(ends, point):
    if len(ends) == 0:
        return (1, 0, -1 - point[0])
    edges = [line_along(tail, head) for tail, head in zip(ends, ends[1:] + ends[:1])]
    # No edge shuts out a point that is on the way of a flat hull and beyond its end.
    fronts = [line_across(point, end) for end in ends]
    for line in edges + fronts:
        if worth(line, point) < 0 and all([worth(line, end) >= 0 for end in ends]):
            return line
    return None


# The point is in the hull of the corners: whoever asks has found no line that shuts it out.
def shares_within(ends, point):
    if len(ends) == 1:
        return [(ends[0], 1)]
    if len(ends) == 2:
        return shares_between(ends[0], ends[1], point)
    k = 1
    # The point is never to the left of the way from the first corner to the last, so this ends.
    while turn(ends[0], ends[k + 1], point) > 0:
        k += 1
    return shares_of_three(ends[0], ends[k], ends[k + 1], point)


def shares_between(tail, head, point):
    share = reach(tail, head, point)
    return [(tail, reach(tail, head, head) - share), (head, share)]


# Each corner's share is as the triangle that the other two make with the point.
def shares_of_three(one, two, three, point):
    return [(one, turn(two, three, point)), (two, turn(three, one, point)), (three, turn(one, two, point))]
