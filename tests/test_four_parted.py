import unittest
from itertools import combinations_with_replacement, permutations

from hullpart.errors import NoFour, NoPoint
from hullpart.parting import four_parted
from papers import Steps, check_four_parted, check_refused, grid


class FourPartedTest(unittest.TestCase):
    def check(self, points):
        for turned in permutations(points):
            check_four_parted(self, list(turned), four_parted(list(turned)))

    def parts_of(self, points):
        told = four_parted(points)
        check_four_parted(self, points, told)
        return sorted([points[number] for number in numbers] for numbers in told[:2])

    def test_four_corners_are_two_pairs_that_are_no_neighbours(self):
        self.assertEqual(self.parts_of([(0, 0), (4, 0), (4, 4), (0, 4)]), [[(0, 0), (4, 4)], [(4, 0), (0, 4)]])
        self.assertEqual(self.parts_of([(0, 0), (4, 4), (4, 0), (0, 4)]), [[(0, 0), (4, 4)], [(4, 0), (0, 4)]])
        self.assertEqual(self.parts_of([(0, 0), (4, 0), (0, 4), (4, 4)]), [[(0, 0), (4, 4)], [(4, 0), (0, 4)]])
        self.assertEqual(four_parted([(0, 0), (4, 0), (4, 4), (0, 4)])[2], (2, 2, 1))
        self.check([(0, 0), (5, 1), (3, 4), (-1, 7)])

    def test_a_spot_between_the_points(self):
        told = four_parted([(0, 0), (1, 0), (1, 1), (0, 1)])
        self.assertEqual(told[2], (1, 1, 2))
        told = four_parted([(0, 0), (-3, 1), (-1, 0), (-1, 1)])
        self.assertEqual(told[2], (-3, 1, 3))

    def test_a_point_within_three_others(self):
        self.assertEqual(self.parts_of([(0, 0), (1, 1), (6, 0), (0, 6)]), [[(0, 0), (6, 0), (0, 6)], [(1, 1)]])
        self.check([(0, 0), (1, 1), (6, 0), (0, 6)])
        self.check([(-1000, -1000), (1000, -1000), (0, 1000), (0, 999)])

    def test_a_point_on_an_edge_between_two_others(self):
        self.check([(0, 0), (6, 0), (0, 6), (3, 3)])
        self.check([(0, 0), (6, 0), (0, 6), (0, 1)])

    def test_all_on_one_way(self):
        for x, y in ((1, 0), (0, 1), (2, 3), (3, -2), (-1, -1)):
            for places in ((0, 1, 2, 3), (-7, 0, 1, 5), (0, 0, 1, 2), (0, 1, 1, 2), (0, 0, 1, 1), (0, 0, 0, 1)):
                self.check([(x * k, y * k) for k in places])

    def test_some_alike(self):
        self.check([(0, 0), (0, 0), (5, 1), (2, 7)])
        self.check([(0, 0), (0, 0), (5, 1), (5, 1)])
        self.check([(0, 0), (0, 0), (0, 0), (5, 1)])

    def test_all_alike(self):
        for point in ((0, 0), (-3, 8), (1000, -1000)):
            told = four_parted([point] * 4)
            check_four_parted(self, [point] * 4, told)
            self.assertEqual(told[2], point + (1,))

    def test_places_at_the_bounds(self):
        self.check([(-1000, -1000), (1000, -1000), (1000, 1000), (-1000, 1000)])
        self.check([(-1000, -1000), (1000, 999), (999, 998), (-1000, -999)])

    def test_every_four_points_of_a_small_grid(self):
        for chosen in combinations_with_replacement(grid(-1, 1), 4):
            for points in (list(chosen), list(chosen[::-1]), list(chosen[::2] + chosen[1::2])):
                check_four_parted(self, points, four_parted(points))

    def test_mixed_points(self):
        steps = Steps(17)
        for far in (3, 10, 1000):
            for again in range(100):
                points = steps.points(4, far)
                check_four_parted(self, points, four_parted(points))

    def test_more_or_fewer_points_are_refused(self):
        for length in (0, 1, 2, 3, 5, 6, 11, 12):
            check_refused(self, NoFour, four_parted, [(k, k * k) for k in range(length)])
            check_refused(self, NoFour, four_parted, [(1, 1)] * length)

    def test_no_points_are_refused_ahead(self):
        for length in (13, 14, 40):
            check_refused(self, NoPoint, four_parted, [(1, 1)] * length)
        for bad in ((1001, 0), (-1001, 0), (0, 1001), (0, -1001), (10**30 - 1, 0)):
            for length in (1, 3, 4, 5, 12, 13):
                for number in range(length):
                    points = [(k, 0) for k in range(length)]
                    points[number] = bad
                    check_refused(self, NoPoint, four_parted, points)


if __name__ == "__main__":
    unittest.main()
