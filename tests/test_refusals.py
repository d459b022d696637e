import unittest

from hullpart.errors import NoPoint
from hullpart.hulls import corners, placed

BEYOND = (1001, -1001, 10**29, -(10**29), 10**30 - 1, 1 - 10**30)
NO_POINTS = [(bad, 0) for bad in BEYOND] + [(0, bad) for bad in BEYOND] + [(bad, bad) for bad in BEYOND]


class RefusalsTest(unittest.TestCase):
    def check_refused(self, ask, *handed):
        with self.assertRaises(NoPoint) as caught:
            ask(*handed)
        self.assertIs(type(caught.exception), NoPoint)

    def test_more_than_twelve_points(self):
        for length in (13, 14, 40):
            points = [(k, k * k) for k in range(length)]
            self.check_refused(corners, points)
            self.check_refused(placed, points, (0, 0))

    def test_more_than_twelve_points_that_are_alike(self):
        self.check_refused(corners, [(0, 0)] * 13)
        self.check_refused(placed, [(0, 0)] * 13, (0, 0))

    def test_a_point_beyond_anywhere_in_the_list(self):
        for bad in NO_POINTS:
            self.check_refused(corners, [bad])
            self.check_refused(placed, [bad], (0, 0))
            for number in range(12):
                points = [(k, 0) for k in range(12)]
                points[number] = bad
                self.check_refused(corners, points)
                self.check_refused(placed, points, (1, 0))

    def test_a_long_list_with_a_point_beyond(self):
        self.check_refused(corners, [(0, 0)] * 39 + [(1001, 0)])
        self.check_refused(placed, [(0, 0)] * 39 + [(1001, 0)], (0, 1001))

    def test_placed_refuses_a_point_beyond(self):
        for bad in NO_POINTS:
            for points in ([], [(0, 0)], [(0, 0), (5, 0), (0, 5)], [bad], [(0, 0)] * 13):
                self.check_refused(placed, points, bad)

    def test_the_bounds_themselves_are_not_refused(self):
        farthest = [(-1000, -1000), (-1000, 1000), (1000, -1000), (1000, 1000)]
        twelve = farthest * 3
        self.assertEqual(len(corners(twelve)), 4)
        for point in farthest:
            self.assertEqual(corners([point]), [point])
            self.assertEqual(placed(twelve, point)[0], "in")
            self.assertEqual(placed([(0, 0)], point)[0], "out")


if __name__ == "__main__":
    unittest.main()
