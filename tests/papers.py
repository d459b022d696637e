"""What the tests share: papers added up anew, and a second way to tell a hull."""

from fractions import Fraction
from itertools import combinations, combinations_with_replacement
from math import gcd


def is_whole(value):
    return type(value) is int


def turn(a, b, c):
    return (b[0] - a[0]) * (c[1] - a[1]) - (b[1] - a[1]) * (c[0] - a[0])


def on_segment(a, b, p):
    facing = (a[0] - p[0]) * (b[0] - p[0]) + (a[1] - p[1]) * (b[1] - p[1])
    return turn(a, b, p) == 0 and facing <= 0


def in_triangle(a, b, c, p):
    turns = [turn(a, b, p), turn(b, c, p), turn(c, a, p)]
    return turn(a, b, c) != 0 and (min(turns) >= 0 or max(turns) <= 0)


def in_hull(points, p):
    """By point 6 over one, two and three points, each choice of them tried."""
    if any(on_segment(a, b, p) for a, b in combinations_with_replacement(points, 2)):
        return True
    return any(in_triangle(a, b, c, p) for a, b, c in combinations(points, 3))


def corner_set(points):
    """By point 7, word for word."""
    return {p for p in points if not in_hull([q for q in points if q != p], p)}


def check_corners(case, points, told):
    case.assertIs(type(told), list)
    for corner in told:
        case.assertIs(type(corner), tuple)
    case.assertEqual(len(told), len(set(told)), (points, told))
    case.assertEqual(set(told), corner_set(points), (points, told))
    if told:
        case.assertEqual(told[0], min(points))
    for a, b in zip(told, told[1:] + told[:1]):
        for c in points:
            case.assertGreaterEqual(turn(a, b, c), 0, (points, told))


def check_weighing(case, points, told, point):
    case.assertIs(type(told), list)
    case.assertLessEqual(len(told), 3)
    for weight in told:
        case.assertIs(type(weight), tuple)
        case.assertEqual(len(weight), 3)
        case.assertTrue(all(is_whole(value) for value in weight), told)
    numbers = [number for number, above, below in told]
    case.assertEqual(numbers, sorted(set(numbers)), told)
    for number, above, below in told:
        case.assertIn(number, range(len(points)))
        case.assertGreater(above, 0)
        case.assertGreater(below, 0)
        case.assertEqual(gcd(above, below), 1, told)
    case.assertEqual(sum(Fraction(above, below) for number, above, below in told), 1)
    for place in (0, 1):
        spot = sum(points[number][place] * Fraction(above, below) for number, above, below in told)
        case.assertEqual(spot, point[place], (points, told))


def line_worth(line, point):
    return line[0] * point[0] + line[1] * point[1] + line[2]


def check_shutting_line(case, points, line, point):
    case.assertIs(type(line), tuple)
    case.assertEqual(len(line), 3)
    case.assertTrue(all(is_whole(value) for value in line), line)
    for other in points:
        case.assertGreaterEqual(line_worth(line, other), 0, (points, line, point))
    case.assertLess(line_worth(line, point), 0, (points, line, point))


def check_placed(case, points, point, told, within):
    case.assertIs(type(told), tuple)
    case.assertEqual(len(told), 2)
    case.assertEqual(told[0], "in" if within else "out", (points, point, told))
    if within:
        check_weighing(case, points, told[1], point)
    else:
        check_shutting_line(case, points, told[1], point)


def grid(least, most):
    return [(x, y) for x in range(least, most + 1) for y in range(least, most + 1)]


def grid_lists(least, most, longest):
    """Every choice of points of a small grid, up to order, some perhaps alike."""
    for length in range(longest + 1):
        for chosen in combinations_with_replacement(grid(least, most), length):
            yield list(chosen)


class Steps:
    """Numbers that look mixed and are the same in every run."""

    def __init__(self, start):
        self.state = start

    def number(self, least, most):
        self.state = (self.state * 6364136223846793005 + 1442695040888963407) % 2**64
        return least + (self.state >> 33) % (most - least + 1)

    def point(self, far):
        return (self.number(-far, far), self.number(-far, far))

    def points(self, length, far):
        return [self.point(far) for step in range(length)]
