import unittest
from itertools import permutations

from hullpart.depths import depth, middle
from hullpart.errors import NoMiddle, NoPoint
from papers import Steps, check_middle, check_refused, grid_lists

FARTHEST = [(-1000, -1000), (1000, -1000), (1000, 1000), (-1000, 1000), (1000, 0), (-1000, 999)]


class MiddleTest(unittest.TestCase):
    def check(self, points):
        told = middle(points)
        check_middle(self, points, told)
        self.assertGreaterEqual(3 * depth(points, told)[0], len(points))

    def test_one_point(self):
        for point in ((0, 0), (3, -4), (1000, -1000), (-1000, 0)):
            self.assertEqual(middle([point]), point + (1,))

    def test_one_to_six_corners(self):
        points = [(0, 4), (3, 2), (3, -2), (0, -4), (-3, -2), (-3, 2)]
        for length in range(1, 7):
            for turned in list(permutations(points[:length]))[::1 if length < 5 else 11]:
                self.check(list(turned))

    def test_points_alike(self):
        for length in range(1, 7):
            self.assertEqual(middle([(7, -7)] * length), (7, -7, 1))
            self.check([(7, -7)] * (length - 1) + [(0, 1)])
        for turned in sorted(set(permutations([(0, 0), (0, 0), (5, 1), (5, 1), (2, 7), (2, 7)]))):
            self.check(list(turned))

    def test_on_one_way(self):
        for x, y in ((1, 0), (0, 1), (2, 3), (3, -2), (-1, -1)):
            for places in ((0, 1, 2, 3, 4, 5), (9, 0, 5, -5, 1, 7), (0, 0, 3, 3, 1, 9)):
                for length in range(1, 7):
                    self.check([(x * k, y * k) for k in places[:length]])

    def test_points_within(self):
        self.check([(0, 0), (6, 0), (0, 6), (1, 1)])
        self.check([(1, 1), (0, 0), (6, 0), (0, 6), (3, 3)])
        self.check([(0, 0), (9, 0), (0, 9), (2, 2), (3, 2), (2, 3)])

    def test_places_at_the_bounds(self):
        for length in range(1, 7):
            self.check(FARTHEST[:length])
            self.check(FARTHEST[::-1][:length])

    def test_every_small_list(self):
        for points in grid_lists(-1, 1, 4):
            if points:
                self.check(points)

    def test_mixed_lists(self):
        steps = Steps(31)
        for far in (1, 2, 5, 1000):
            for length in range(1, 7):
                for again in range(10):
                    self.check(steps.points(length, far))

    def test_no_points_and_more_than_six_are_refused(self):
        for length in (0, 7, 8, 11, 12):
            check_refused(self, NoMiddle, middle, [(k, k * k) for k in range(length)])
            check_refused(self, NoMiddle, middle, [(1, 1)] * length)

    def test_no_points_are_refused_ahead(self):
        for length in (13, 14, 40):
            check_refused(self, NoPoint, middle, [(1, 1)] * length)
        for bad in ((1001, 0), (-1001, 0), (0, 1001), (0, -1001), (0, 1 - 10**30)):
            for length in (1, 2, 4, 6, 7, 12, 13):
                for number in range(length):
                    points = [(k, 0) for k in range(length)]
                    points[number] = bad
                    check_refused(self, NoPoint, middle, points)


if __name__ == "__main__":
    unittest.main()
