"""What parts two lists of points, or where their hulls meet, and how four points are parted so that they meet."""

from hullpart.errors import NoFour
from hullpart.hulls import corners_round, shares_within, shutting_line
from hullpart.places import FARTHEST, check_points, lowest, weighing, worth

NO_STEP = (0, 0)
# Each with the rest of the four numbers: every parting of four points in two lists, but for which list is the first.
FIRST_PARTS = ((0,), (1,), (2,), (3,), (0, 1), (0, 2), (0, 3))


def parted(ones, others):
    check_points(ones)
    check_points(others)
    return line_or_spot(ones, others)


def four_parted(points):
    check_points(points)
    if len(points) != 4:
        raise NoFour("not four points")
    # By Radon's theorem one of these meets, so the walk never comes to its end.
    for part in FIRST_PARTS:
        first = list(part)
        second = [number for number in range(4) if number not in part]
        told = line_or_spot([points[number] for number in first], [points[number] for number in second])
        if told[0] == "spot":
            return (first, second, told[1])


# The hulls meet just if the step that goes nowhere is in the hull of the steps from the others to the ones.
def line_or_spot(ones, others):
    if len(ones) == 0 or len(others) == 0:
        return ("line", line_beside(ones))
    steps = steps_between(ones, others)
    ends = corners_round(list(steps))
    shutting = shutting_line(ends, NO_STEP)
    if shutting is not None:
        return ("line", line_between(ones, others, shutting))
    shares = [(steps[end], share) for end, share in shares_within(ends, NO_STEP)]
    # The weighed steps come to nothing together, so where they begin and where they end weigh to one spot.
    one_shares = added_up([(numbers[0], share) for numbers, share in shares])
    other_shares = added_up([(numbers[1], share) for numbers, share in shares])
    return ("spot", weighed_spot(ones, one_shares), weighing(one_shares), weighing(other_shares))


# One of the lists is empty, so a line that has every point on one side of it will do.
def line_beside(ones):
    if len(ones) == 0:
        return (1, 0, -FARTHEST - 1)
    return (1, 0, FARTHEST + 1)


def steps_between(ones, others):
    steps = {}
    for one_number, one in enumerate(ones):
        for other_number, other in enumerate(others):
            steps[(one[0] - other[0], one[1] - other[1])] = (one_number, other_number)
    return steps


# The line that shuts out NO_STEP rises along every step, so each of the ones is higher on it than each of the others.
def line_between(ones, others, shutting):
    rising = (shutting[0], shutting[1], 0)
    low = min([worth(rising, one) for one in ones])
    high = max([worth(rising, other) for other in others])
    # Doubled, since half of low and high together need not be whole.
    return (2 * shutting[0], 2 * shutting[1], -low - high)


# Two steps may begin or end at one point, and a weighing has each point once.
def added_up(shares):
    sums = {}
    for number, share in shares:
        sums[number] = sums.get(number, 0) + share
    return list(sums.items())


def weighed_spot(points, shares):
    x = sum([points[number][0] * share for number, share in shares])
    y = sum([points[number][1] * share for number, share in shares])
    return lowest((x, y, sum([share for number, share in shares])))
