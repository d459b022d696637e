"""What the tests share: papers added up anew, and a second way to tell a hull."""

from fractions import Fraction
from itertools import combinations, combinations_with_replacement
from math import gcd

from hullpart.errors import HullError

ROUND_TWELVE = [
    (5, 0), (4, 3), (3, 4), (0, 5), (-3, 4), (-4, 3), (-5, 0), (-4, -3), (-3, -4), (0, -5), (3, -4), (4, -3),
]


def is_whole(value):
    return type(value) is int


def turn(a, b, c):
    return (b[0] - a[0]) * (c[1] - a[1]) - (b[1] - a[1]) * (c[0] - a[0])


def on_segment(a, b, p):
    facing = (a[0] - p[0]) * (b[0] - p[0]) + (a[1] - p[1]) * (b[1] - p[1])
    return turn(a, b, p) == 0 and facing <= 0


def in_triangle(a, b, c, p):
    turns = [turn(a, b, p), turn(b, c, p), turn(c, a, p)]
    return turn(a, b, c) != 0 and (min(turns) >= 0 or max(turns) <= 0)


def in_hull(points, p):
    """By point 6 over one, two and three points, each choice of them tried."""
    if any(on_segment(a, b, p) for a, b in combinations_with_replacement(points, 2)):
        return True
    return any(in_triangle(a, b, c, p) for a, b, c in combinations(points, 3))


def corner_set(points):
    """By point 7, word for word."""
    return {p for p in points if not in_hull([q for q in points if q != p], p)}


def check_corners(case, points, told):
    case.assertIs(type(told), list)
    for corner in told:
        case.assertIs(type(corner), tuple)
    case.assertEqual(len(told), len(set(told)), (points, told))
    case.assertEqual(set(told), corner_set(points), (points, told))
    if told:
        case.assertEqual(told[0], min(points))
    for a, b in zip(told, told[1:] + told[:1]):
        for c in points:
            case.assertGreaterEqual(turn(a, b, c), 0, (points, told))


def check_weighing(case, points, told, point):
    case.assertIs(type(told), list)
    case.assertLessEqual(len(told), 3)
    for weight in told:
        case.assertIs(type(weight), tuple)
        case.assertEqual(len(weight), 3)
        case.assertTrue(all(is_whole(value) for value in weight), told)
    numbers = [number for number, above, below in told]
    case.assertEqual(numbers, sorted(set(numbers)), told)
    for number, above, below in told:
        case.assertIn(number, range(len(points)))
        case.assertGreater(above, 0)
        case.assertGreater(below, 0)
        case.assertEqual(gcd(above, below), 1, told)
    case.assertEqual(sum(Fraction(above, below) for number, above, below in told), 1)
    for place in (0, 1):
        spot = sum(points[number][place] * Fraction(above, below) for number, above, below in told)
        case.assertEqual(spot, point[place], (points, told))


def line_worth(line, point):
    return line[0] * point[0] + line[1] * point[1] + line[2]


def check_three_whole(case, told):
    case.assertIs(type(told), tuple)
    case.assertEqual(len(told), 3)
    case.assertTrue(all(is_whole(value) for value in told), told)


def check_shutting_line(case, points, line, point):
    check_three_whole(case, line)
    for other in points:
        case.assertGreaterEqual(line_worth(line, other), 0, (points, line, point))
    case.assertLess(line_worth(line, point), 0, (points, line, point))


def check_placed(case, points, point, told, within):
    case.assertIs(type(told), tuple)
    case.assertEqual(len(told), 2)
    case.assertEqual(told[0], "in" if within else "out", (points, point, told))
    if within:
        check_weighing(case, points, told[1], point)
    else:
        check_shutting_line(case, points, told[1], point)


def check_spot_form(case, spot):
    check_three_whole(case, spot)
    case.assertGreater(spot[2], 0, spot)
    case.assertEqual(gcd(*spot), 1, spot)


def spot_place(spot):
    return (Fraction(spot[0], spot[2]), Fraction(spot[1], spot[2]))


def check_parted(case, ones, others, told, meet):
    case.assertIs(type(told), tuple)
    case.assertEqual(told[0], "spot" if meet else "line", (ones, others, told))
    case.assertEqual(len(told), 4 if meet else 2)
    if meet:
        check_spot_form(case, told[1])
        check_weighing(case, ones, told[2], spot_place(told[1]))
        check_weighing(case, others, told[3], spot_place(told[1]))
        case.assertIsNot(told[2], told[3])
        return
    check_three_whole(case, told[1])
    for one in ones:
        case.assertGreater(line_worth(told[1], one), 0, (ones, others, told))
    for other in others:
        case.assertLess(line_worth(told[1], other), 0, (ones, others, told))


def segments_meet(a, b, c, d):
    if any(on_segment(*ends, p) for ends, p in (((a, b), c), ((a, b), d), ((c, d), a), ((c, d), b))):
        return True
    return turn(a, b, c) * turn(a, b, d) < 0 and turn(c, d, a) * turn(c, d, b) < 0


def hulls_meet(ones, others):
    """Hulls that meet have crossing edges, or one of them holds a point of the other."""
    if any(in_hull(ones, p) for p in others) or any(in_hull(others, p) for p in ones):
        return True
    return any(segments_meet(*p, *q) for p in combinations(ones, 2) for q in combinations(others, 2))


def check_four_parted(case, points, told):
    case.assertIs(type(told), tuple)
    case.assertEqual(len(told), 3)
    for numbers in told[:2]:
        case.assertIs(type(numbers), list)
        case.assertTrue(all(is_whole(number) for number in numbers), told)
        case.assertNotEqual(numbers, [])
        case.assertEqual(numbers, sorted(numbers), (points, told))
    case.assertEqual(sorted(told[0] + told[1]), [0, 1, 2, 3], (points, told))
    case.assertIsNot(told[0], told[1])
    check_spot_form(case, told[2])
    for numbers in told[:2]:
        hull = [points[number] for number in numbers]
        case.assertTrue(in_hull(hull, spot_place(told[2])), (points, told))


def spot_depth(points, spot):
    """The points that a half-plane with the spot leaves out are some whose hull doesn't have the spot: the most of them
    are sought, choice by choice, where a hull has the spot if it has it by one, two or three of its points."""
    place = spot_place(spot)
    holding = []
    for size in (1, 2, 3):
        for chosen in combinations(range(len(points)), size):
            if in_hull([points[number] for number in chosen], place):
                holding.append(sum(1 << number for number in chosen))
    least = len(points)
    for left_out in range(1 << len(points)):
        within = len(points) - bin(left_out).count("1")
        if within < least and not any(left_out & some == some for some in holding):
            least = within
    return least


def spot_worth(line, spot):
    place = spot_place(spot)
    return line[0] * place[0] + line[1] * place[1] + line[2]


def check_depth(case, points, spot, told, expected):
    case.assertIs(type(told), tuple)
    case.assertEqual(len(told), 2)
    case.assertTrue(is_whole(told[0]), told)
    case.assertEqual(told[0], expected, (points, spot, told))
    check_three_whole(case, told[1])
    case.assertNotEqual(told[1][:2], (0, 0))
    case.assertGreaterEqual(spot_worth(told[1], spot), 0, (points, spot, told))
    count = sum(1 for point in points if line_worth(told[1], point) >= 0)
    case.assertEqual(count, told[0], (points, spot, told))


def check_middle(case, points, told):
    check_spot_form(case, told)
    case.assertGreaterEqual(3 * spot_depth(points, told), len(points), (points, told))


def check_refused(case, refusal, ask, *handed):
    """It is of the class itself, not of one above or beside it."""
    with case.assertRaises(HullError, msg=handed) as caught:
        ask(*handed)
    case.assertIs(type(caught.exception), refusal, handed)


def grid(least, most):
    return [(x, y) for x in range(least, most + 1) for y in range(least, most + 1)]


def grid_lists(least, most, longest):
    """Every choice of points of a small grid, up to order, some perhaps alike."""
    for length in range(longest + 1):
        for chosen in combinations_with_replacement(grid(least, most), length):
            yield list(chosen)


class Steps:
    """Numbers that look mixed and are the same in every run."""

    def __init__(self, start):
        self.state = start

    def number(self, least, most):
        self.state = (self.state * 6364136223846793005 + 1442695040888963407) % 2**64
        return least + (self.state >> 33) % (most - least + 1)

    def point(self, far):
        return (self.number(-far, far), self.number(-far, far))

    def points(self, length, far):
        return [self.point(far) for step in range(length)]

    def spot(self, far, most_below):
        below = self.number(1, most_below)
        x, y = self.number(-far * below, far * below), self.number(-far * below, far * below)
        common = gcd(x, y, below)
        return (x // common, y // common, below // common)
