import unittest
from itertools import combinations_with_replacement

from hullpart.depths import depth
from hullpart.errors import NoPoint, NoSpot
from papers import ROUND_TWELVE, Steps, check_depth, check_refused, grid, line_worth, spot_depth, spot_worth

SQUARE = [(0, 0), (4, 0), (4, 4), (0, 4)]
THIRTY = 10**30 - 1
NO_SPOTS = [
    (0, 0, 0), (1, 1, 0), (1, 0, 0), (0, 1, 0), (0, 0, -1), (1, 2, -1), (1, 2, -3), (-1, -2, -3), (0, 0, 2), (0, 0, 7),
    (2, 4, 6), (2, 0, 2), (0, 3, 3), (-2, 4, 2), (2, -4, 2), (-6, -9, 3), (6, 10, 4), (THIRTY, THIRTY, THIRTY),
    (THIRTY, 0, 3), (-THIRTY, THIRTY, 9), (0, 0, THIRTY), (0, 0, -THIRTY), (1, 1, -THIRTY), (10**29, 0, 2),
]
SPOTS = [
    (0, 0, 1), (1, 0, 1), (2, 4, 1), (2, 4, 3), (0, 1, 2), (1, 0, 2), (-1, -1, 2), (6, 10, 15), (-4, 6, 9),
    (THIRTY, THIRTY, 1), (-THIRTY, THIRTY, 10**29), (1, 0, THIRTY), (0, -1, THIRTY), (THIRTY, -THIRTY, 1),
]


class DepthTest(unittest.TestCase):
    def check(self, points, spot, expected=None):
        reckoned = spot_depth(points, spot)
        if expected is not None:
            self.assertEqual(reckoned, expected, (points, spot))
        check_depth(self, points, spot, depth(points, spot), reckoned)

    def test_no_points(self):
        for spot in SPOTS:
            self.check([], spot, 0)

    def test_one_point(self):
        self.check([(3, -4)], (3, -4, 1), 1)
        for spot in SPOTS:
            self.check([(3, -4)], spot, 0)

    def test_on_a_point(self):
        for point in SQUARE:
            self.check(SQUARE, point + (1,), 1)
        self.check(SQUARE + [(2, 2)], (2, 2, 1), 3)
        self.check([(0, 0), (6, 0), (0, 6), (1, 1)], (1, 1, 1), 2)

    def test_on_points_alike(self):
        for length in range(1, 13):
            self.check([(7, 7)] * length, (7, 7, 1), length)
            self.check([(7, 7)] * length, (13, 14, 2), 0)
        self.check([(0, 0), (0, 0), (5, 0), (0, 5)], (0, 0, 1), 2)
        self.check([(1, 1), (1, 1), (0, 0), (3, 0), (0, 3)], (1, 1, 1), 3)
        self.check([(0, 0), (4, 0), (0, 0), (4, 0), (2, 3)], (2, 0, 1), 2)

    def test_on_the_way_between_points(self):
        self.check([(0, 0), (3, 0)], (1, 0, 1), 1)
        self.check([(0, 0), (3, 0)], (1, 0, 2), 1)
        self.check(SQUARE, (2, 0, 1), 1)
        self.check(SQUARE, (2, 2, 1), 2)
        self.check(SQUARE, (1, 1, 1), 1)
        self.check([(0, 0), (1, 0), (1, 1), (0, 1)], (1, 1, 2), 2)

    def test_within_and_beside(self):
        self.check([(0, 0), (3, 0), (0, 3)], (1, 1, 1), 1)
        self.check([(0, 0), (3, 0), (0, 3)], (3, 3, 2), 1)
        self.check([(0, 0), (3, 0), (0, 3)], (2, 2, 1), 0)
        self.check([(0, 0), (6, 0), (0, 6), (1, 1), (3, 1), (1, 3)], (5, 5, 3), 2)

    def test_far_off(self):
        for points in (SQUARE, SQUARE * 3, [(1, 1)], [(-1000, -1000), (1000, 1000), (1000, -1000)]):
            for spot in ((5000, 1, 1), (-1, -THIRTY, 1), (THIRTY, THIRTY, 1), (-THIRTY, THIRTY - 1, 2)):
                self.check(points, spot, 0)

    def test_numbers_of_thirty_figures_close_by(self):
        self.check(SQUARE, (1, 1, THIRTY), 1)
        self.check(SQUARE, (-1, 1, THIRTY), 0)
        self.check(SQUARE, (0, 1, THIRTY), 1)
        self.check([(0, 0), (1, 1)], (THIRTY // 2, THIRTY // 2, THIRTY), 1)
        self.check([(0, 0), (1, 1)], (THIRTY // 2, THIRTY // 2 + 1, THIRTY), 0)

    def test_all_points_on_one_way(self):
        for x, y in ((1, 0), (0, 1), (2, 3), (3, -2), (-1, -1)):
            points = [(x * k, y * k) for k in (5, -3, 0, 2, 2, 7)]
            for k, expected in enumerate((0, 1, 1, 1, 2, 2, 4, 2, 2, 2, 1, 1, 0), start=-4):
                self.check(points, (x * k, y * k, 1), expected)
                self.check(points, (x * k - y, y * k + x, 1), 0)
                self.check(points, (x * k + y, y * k - x, 1), 0)

    def test_twelve_points(self):
        self.check(ROUND_TWELVE, (0, 0, 1), 6)
        self.check(ROUND_TWELVE, (1, 7, 100), 5)
        self.check(ROUND_TWELVE, (5, 0, 1), 1)
        self.check(SQUARE * 3, (2, 2, 1), 6)
        self.check([(-1000, -1000), (1000, -1000), (1000, 1000), (-1000, 1000)] * 3, (0, 0, 1), 6)
        steps = Steps(23)
        for far in (2, 5, 1000):
            for again in range(2):
                self.check(steps.points(12, far), steps.spot(far // 2, 3))

    def test_spots_in_their_form_are_taken(self):
        for spot in SPOTS:
            self.check(SQUARE, spot)

    def test_every_small_list(self):
        for length in range(1, 4):
            for chosen in combinations_with_replacement(grid(-1, 1), length):
                for spot in ((0, 0, 1), (1, 0, 1), (1, 1, 2), (-1, 0, 2), (1, -1, 3)):
                    self.check(list(chosen), spot)

    def test_mixed_lists(self):
        steps = Steps(19)
        found = {}
        for far in (1, 2, 4, 1000):
            for length in range(3, 9):
                for again in range(6):
                    points = steps.points(length, far)
                    spot = steps.spot(max(1, far // 2), 4)
                    self.check(points, spot)
                    found[depth(points, spot)[0]] = True
        self.assertEqual(sorted(found)[:4], [0, 1, 2, 3])

    def test_no_half_plane_has_fewer(self):
        steps = Steps(29)
        for length in (4, 8, 12):
            points = steps.points(length, 6)
            spot = steps.spot(3, 2)
            told = depth(points, spot)
            for a, b in grid(-7, 7):
                if (a, b) != (0, 0):
                    line = (a, b, -spot_worth((a, b, 0), spot))
                    count = sum(1 for point in points if line_worth(line, point) >= 0)
                    self.assertGreaterEqual(count, told[0])

    def test_other_three_numbers_are_refused(self):
        for spot in NO_SPOTS:
            for points in ([], [(0, 0)], SQUARE, SQUARE * 3):
                check_refused(self, NoSpot, depth, points, spot)

    def test_no_points_are_refused_ahead(self):
        for spot in NO_SPOTS + SPOTS:
            check_refused(self, NoPoint, depth, [(1, 1)] * 13, spot)
            check_refused(self, NoPoint, depth, SQUARE + [(0, 1001)], spot)
            check_refused(self, NoPoint, depth, [(-THIRTY, 0)], spot)


if __name__ == "__main__":
    unittest.main()
