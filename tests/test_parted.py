import unittest

from hullpart.parting import parted
from papers import Steps, check_parted, grid, grid_lists, hulls_meet

TRIANGLE = [(0, 0), (6, 0), (0, 6)]
SQUARE = [(0, 0), (4, 0), (4, 4), (0, 4)]
FARTHEST = [(-1000, -1000), (1000, -1000), (1000, 1000), (-1000, 1000)]
WAYS = [(1, 0), (0, 1), (2, 3), (3, -2), (-1, -1)]


def along(way, places, aside=0):
    return [(way[0] * k - way[1] * aside, way[1] * k + way[0] * aside) for k in places]


class PartedTest(unittest.TestCase):
    def check(self, ones, others, meet):
        for mine, theirs in ((ones, others), (others, ones), (ones[::-1], others), (others, ones[::-1])):
            check_parted(self, mine, theirs, parted(mine, theirs), meet)

    def check_apart(self, ones, others):
        self.check(ones, others, False)

    def check_met(self, ones, others):
        self.check(ones, others, True)

    def test_either_list_empty_or_both(self):
        self.check_apart([], [])
        for points in ([(0, 0)], [(-1, 0)], TRIANGLE, FARTHEST, FARTHEST * 3, [(-1000, 0)], [(1000, 0)], [(0, -1000)]):
            self.check_apart(points, [])

    def test_one_point_against_one_point(self):
        for one in grid(-1, 1):
            for other in grid(-1, 1):
                self.check([one], [other], one == other)

    def test_the_spot_of_two_points_alike(self):
        self.assertEqual(parted([(-3, 7)], [(-3, 7)]), ("spot", (-3, 7, 1), [(0, 1, 1)], [(0, 1, 1)]))
        self.assertEqual(parted([(0, 0)], [(0, 0)]), ("spot", (0, 0, 1), [(0, 1, 1)], [(0, 1, 1)]))

    def test_neighbouring_points(self):
        for place in (-1000, -1, 0, 999):
            self.check_apart([(place, 3)], [(place + 1, 3)])
            self.check_apart([(3, place)], [(3, place + 1)])

    def test_two_ways_that_cross_have_one_spot(self):
        told = parted([(0, 0), (3, 3)], [(0, 1), (1, 0)])
        self.assertEqual(told, ("spot", (1, 1, 2), [(0, 5, 6), (1, 1, 6)], [(0, 1, 2), (1, 1, 2)]))
        told = parted([(0, 0), (-3, 1)], [(-1, 0), (-1, 1)])
        self.assertEqual(told, ("spot", (-3, 1, 3), [(0, 2, 3), (1, 1, 3)], [(0, 2, 3), (1, 1, 3)]))

    def test_hulls_that_touch_in_a_corner(self):
        self.check_met(SQUARE, [(4, 4), (8, 4), (4, 8)])
        self.assertEqual(parted(SQUARE, [(7, 7), (8, 4), (4, 4)])[1], (4, 4, 1))
        self.check_met(SQUARE, [(4, 1), (8, 0), (8, 8)])
        self.check_met([(0, 0), (9, 9)], [(5, 5), (6, 0)])

    def test_hulls_that_touch_along_an_edge(self):
        self.check_met(SQUARE, [(4, 0), (8, 0), (8, 4), (4, 4)])
        self.check_met(SQUARE, [(4, -3), (8, 0), (4, 7)])
        self.check_met(SQUARE, [(4, 1), (4, 2)])

    def test_hulls_that_almost_touch(self):
        self.check_apart(SQUARE, [(5, 4), (8, 4), (5, 8)])
        self.check_apart(SQUARE, [(5, -3), (5, 7), (8, 0)])
        self.check_apart([(-1000, -1000), (1000, 999)], [(-1000, -999), (999, 999)])
        self.check_apart([(-1000, -1000), (1000, 999)], [(0, 0)])

    def test_hulls_that_cross(self):
        self.check_met(SQUARE, [(2, 2), (9, 2), (9, 3)])
        self.check_met(SQUARE, [(-2, 2), (6, 2)])
        self.check_met(TRIANGLE, [(4, 4), (-2, 4), (4, -2)])
        self.check_met([(0, 0), (7, 1)], [(3, -5), (4, 6)])

    def test_one_hull_within_the_other(self):
        self.check_met(FARTHEST, TRIANGLE)
        self.check_met(TRIANGLE, [(1, 1)])
        self.check_met(SQUARE, [(1, 1), (3, 1), (2, 3)])
        self.check_met(SQUARE, SQUARE)
        self.check_met(SQUARE, [(2, 2)] * 12)

    def test_on_one_way_overlapping_and_apart(self):
        for way in WAYS:
            self.check_met(along(way, (0, 4, 2)), along(way, (3, 7)))
            self.check_met(along(way, (0, 4)), along(way, (4, 7)))
            self.check_met(along(way, (0, 9, 5)), along(way, (3, 4)))
            self.check_met(along(way, (0, 4)), along(way, (4, 0)))
            self.check_met(along(way, (0, 9)), along(way, (4,)))
            self.check_apart(along(way, (0, 4, 2)), along(way, (5, 7)))
            self.check_apart(along(way, (-2, -1)), along(way, (0, 1, 2)))
            self.check_apart(along(way, (-2, -1)), along(way, (3,)))

    def test_on_two_ways_side_by_side(self):
        for way in WAYS:
            self.check_apart(along(way, (0, 4, 2)), along(way, (1, 3), 1))
            self.check_apart(along(way, (0, 4, 2)), along(way, (7, 9), -2))

    def test_points_alike(self):
        self.check_met(TRIANGLE * 4, [(2, 2)] * 12)
        self.check_met([(1, 1)] * 3, [(1, 1)] * 5)
        self.check_apart(TRIANGLE * 4, [(4, 3)] * 12)
        self.check_apart([(1, 1)] * 3, [(1, 2)] * 5)
        self.check_met([(0, 0), (2, 2), (0, 0)], [(1, 1), (0, 2), (1, 1)])

    def test_one_list_as_both(self):
        for points in (TRIANGLE, [(5, -5)], SQUARE * 3, [(0, 0), (1, 1)]):
            check_parted(self, points, points, parted(points, points), True)

    def test_twelve_points_in_either(self):
        low = [(k, k * k) for k in range(-6, 6)]
        high = [(k, 50 + k * k) for k in range(-6, 6)]
        self.check_apart(low, [(k, -1 - k * k) for k in range(-6, 6)])
        self.check_met(low, [(k, -k * k) for k in range(-6, 6)])
        self.check_apart(low, high)
        self.check_met(low, [(y, x) for x, y in low])

    def test_places_at_the_bounds(self):
        for number, corner in enumerate(FARTHEST):
            rest = FARTHEST[:number] + FARTHEST[number + 1:]
            self.check_apart([corner], rest)
            self.check_met([corner, (0, 0)], rest)
            self.check_met([corner], FARTHEST)
        self.check_met(FARTHEST[::2], FARTHEST[1::2])
        self.check_apart(FARTHEST[:2], FARTHEST[2:])
        self.check_met(FARTHEST[::2], [(-1000, 999), (1000, 999)])
        self.check_met([(-1000, -1000), (1000, 999)], [(-999, -1000), (999, 1000)])

    def test_every_two_small_lists(self):
        threes = [[(0, 0), (2, 1), (1, 2)], [(0, 2), (1, 1), (2, 2)], [(2, 0), (1, 1), (0, 2)]]
        lists = list(grid_lists(0, 2, 2)) + threes
        for ones in lists:
            for others in lists:
                meet = hulls_meet(ones, others)
                check_parted(self, ones, others, parted(ones, others), meet)

    def test_mixed_lists(self):
        steps = Steps(13)
        kinds = [0, 0]
        for far in (2, 4, 10, 1000):
            for length in range(1, 13):
                for again in range(8):
                    ones = steps.points(length, far)
                    aside = steps.number(0, far)
                    others = [(max(-1000, x - aside), y) for x, y in steps.points(steps.number(1, 12), far)]
                    meet = hulls_meet(ones, others)
                    kinds[meet] += 1
                    check_parted(self, ones, others, parted(ones, others), meet)
        self.assertGreater(min(kinds), 20)


if __name__ == "__main__":
    unittest.main()
