"""Point 2: no points are refused with NoPoint by whatever is handed points, ahead of all else that is refused."""

import unittest

from hullpart.depths import depth, middle
from hullpart.errors import HullError, NoFour, NoMiddle, NoNote, NoPoint, NoSpot
from hullpart.hulls import corners, placed
from hullpart.notes import read, shown
from hullpart.parting import four_parted, parted
from papers import check_refused

BEYOND = (1001, -1001, 10**29, -(10**29), 10**30 - 1, 1 - 10**30)
NO_POINTS = [(bad, 0) for bad in BEYOND] + [(0, bad) for bad in BEYOND] + [(bad, bad) for bad in BEYOND]
ASKS = [
    corners,
    four_parted,
    middle,
    shown,
    lambda points: placed(points, (0, 0)),
    lambda points: placed(points, (0, 1001)),
    lambda points: parted(points, []),
    lambda points: parted([], points),
    lambda points: parted(points, [(0, 0), (3, 0), (0, 3)]),
    lambda points: parted([(0, 0), (3, 0), (0, 3)], points),
    lambda points: parted(points, points),
    lambda points: depth(points, (0, 0, 1)),
    lambda points: depth(points, (0, 0, 2)),
    lambda points: depth(points, (0, 0, 0)),
]


class RefusalsTest(unittest.TestCase):
    def check_no_point(self, points):
        for ask in ASKS:
            check_refused(self, NoPoint, ask, points)

    def test_more_than_twelve_points(self):
        for length in (13, 14, 40):
            self.check_no_point([(k, k * k) for k in range(length)])

    def test_more_than_twelve_points_that_are_alike(self):
        self.check_no_point([(0, 0)] * 13)

    def test_a_point_beyond_anywhere_in_the_list(self):
        for bad in NO_POINTS:
            for length in (1, 4, 6, 12):
                for number in range(length):
                    points = [(k, 0) for k in range(length)]
                    points[number] = bad
                    self.check_no_point(points)

    def test_a_long_list_with_a_point_beyond(self):
        self.check_no_point([(0, 0)] * 39 + [(1001, 0)])

    def test_placed_refuses_a_point_beyond(self):
        for bad in NO_POINTS:
            for points in ([], [(0, 0)], [(0, 0), (5, 0), (0, 5)], [bad], [(0, 0)] * 13):
                check_refused(self, NoPoint, placed, points, bad)

    def test_the_bounds_themselves_are_not_refused(self):
        farthest = [(-1000, -1000), (-1000, 1000), (1000, -1000), (1000, 1000)]
        twelve = farthest * 3
        self.assertEqual(len(corners(twelve)), 4)
        self.assertEqual(parted(twelve, twelve)[0], "spot")
        self.assertEqual(depth(twelve, (0, 0, 1))[0], 6)
        self.assertEqual(four_parted(farthest)[2], (0, 0, 1))
        self.assertEqual(read(shown(twelve)), twelve)
        for point in farthest:
            self.assertEqual(corners([point]), [point])
            self.assertEqual(placed(twelve, point)[0], "in")
            self.assertEqual(placed([(0, 0)], point)[0], "out")
            self.assertEqual(parted([(0, 0)], [point])[0], "line")
            self.assertEqual(middle([point]), point + (1,))

    def test_each_refusal_is_of_its_own_class_and_of_no_other(self):
        refused = [
            (NoPoint, corners, [(1001, 0)]),
            (NoSpot, depth, [], (0, 0, 2)),
            (NoFour, four_parted, [(0, 0)] * 3),
            (NoMiddle, middle, []),
            (NoNote, read, "1"),
        ]
        for own, ask, *handed in refused:
            with self.assertRaises(HullError) as caught:
                ask(*handed)
            classes = [refusal for refusal, *rest in refused if isinstance(caught.exception, refusal)]
            self.assertEqual(classes, [own])


if __name__ == "__main__":
    unittest.main()
