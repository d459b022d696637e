import unittest

from hullpart.hulls import placed
from papers import Steps, check_placed, grid, grid_lists, in_hull

TRIANGLE = [(0, 0), (6, 0), (0, 6)]


class PlacedTest(unittest.TestCase):
    def check_in(self, points, point):
        check_placed(self, points, point, placed(points, point), True)

    def check_out(self, points, point):
        check_placed(self, points, point, placed(points, point), False)

    def test_within_by_one_point(self):
        self.assertEqual(placed([(2, 3)], (2, 3)), ("in", [(0, 1, 1)]))
        for number, corner in enumerate(TRIANGLE):
            self.assertEqual(placed(TRIANGLE, corner), ("in", [(number, 1, 1)]))

    def test_within_by_two_points(self):
        self.assertEqual(placed([(0, 0), (6, 3)], (4, 2)), ("in", [(0, 1, 3), (1, 2, 3)]))
        self.assertEqual(placed([(6, 3), (0, 0)], (4, 2)), ("in", [(0, 2, 3), (1, 1, 3)]))
        self.assertEqual(placed(TRIANGLE, (2, 4)), ("in", [(1, 1, 3), (2, 2, 3)]))

    def test_within_by_three_points(self):
        self.assertEqual(placed(TRIANGLE, (1, 2)), ("in", [(0, 1, 2), (1, 1, 6), (2, 1, 3)]))
        self.assertEqual(placed(TRIANGLE[::-1], (1, 2)), ("in", [(0, 1, 3), (1, 1, 6), (2, 1, 2)]))

    def test_within_a_hull_of_many_corners(self):
        points = [(3, 0), (0, 3), (-3, 0), (0, -3), (2, 2), (-2, 2), (-2, -2), (2, -2)]
        for point in grid(-4, 4):
            check_placed(self, points, point, placed(points, point), in_hull(points, point))

    def test_out_beside_each_edge_and_each_corner(self):
        for point in ((-1, 3), (3, -1), (4, 3), (-1, -1), (7, 0), (0, 7), (7, -1), (-1, 7), (-1, 0)):
            self.check_out(TRIANGLE, point)

    def test_no_points_at_all(self):
        for point in ((0, 0), (1000, -1000), (-1000, 1000), (-1, 0)):
            self.check_out([], point)

    def test_one_of_the_points_lies_within(self):
        points = [(5, 5), (0, 0), (9, 0), (3, 3), (0, 9), (2, 1)]
        for point in points:
            self.check_in(points, point)

    def test_one_point_and_another(self):
        for point in grid(-2, 2):
            check_placed(self, [(1, 0)], point, placed([(1, 0)], point), point == (1, 0))

    def test_points_alike(self):
        self.check_in([(1, 1)] * 12, (1, 1))
        self.check_out([(1, 1)] * 12, (1, 2))
        doubled = TRIANGLE + TRIANGLE
        self.check_in(doubled, (1, 1))
        self.check_in(doubled, (3, 3))
        self.check_out(doubled, (4, 3))

    def test_on_one_way_between_beyond_and_beside(self):
        for x, y in ((1, 0), (0, 1), (2, 3), (3, -2), (-1, -1)):
            points = [(x * k, y * k) for k in (4, -4, 0, 2, 4)]
            for k in range(-4, 5):
                self.check_in(points, (x * k, y * k))
            for k in (-5, 5, 9):
                self.check_out(points, (x * k, y * k))
            for k in range(-6, 7):
                self.check_out(points, (x * k - y, y * k + x))
                self.check_out(points, (x * k + y, y * k - x))

    def test_far_points(self):
        square = [(-1000, -1000), (1000, -1000), (1000, 1000), (-1000, 1000)]
        for point in square + [(0, 0), (1000, 0), (-999, 1000), (1000, 999), (7, -13)]:
            self.check_in(square, point)
        thin = [(-1000, -1000), (1000, 999), (999, 998)]
        self.check_in(thin, (999, 998))
        self.check_out(thin, (0, 0))
        self.check_out(thin, (1000, 1000))
        self.check_out(thin, (-1000, -999))

    def test_every_small_list_and_point(self):
        asked = grid(-2, 2)
        for points in grid_lists(-1, 1, 4):
            for point in asked:
                check_placed(self, points, point, placed(points, point), in_hull(points, point))

    def test_mixed_lists_and_points(self):
        steps = Steps(11)
        for far in (1, 2, 4, 10, 1000):
            for length in range(3, 13):
                for again in range(10):
                    points = steps.points(length, far)
                    point = steps.point(far)
                    check_placed(self, points, point, placed(points, point), in_hull(points, point))


if __name__ == "__main__":
    unittest.main()
