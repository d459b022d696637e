import unittest

from hullpart.hulls import corners
from papers import ROUND_TWELVE, Steps, check_corners, grid_lists


class CornersTest(unittest.TestCase):
    def test_no_points(self):
        self.assertEqual(corners([]), [])

    def test_one_point(self):
        self.assertEqual(corners([(3, -4)]), [(3, -4)])

    def test_two_points_least_first(self):
        self.assertEqual(corners([(2, 0), (1, 5)]), [(1, 5), (2, 0)])
        self.assertEqual(corners([(1, 5), (2, 0)]), [(1, 5), (2, 0)])

    def test_least_by_the_second_place_where_the_first_is_alike(self):
        self.assertEqual(corners([(1, 5), (1, -5)]), [(1, -5), (1, 5)])
        self.assertEqual(corners([(0, 2), (2, 2), (2, 0), (0, 0)]), [(0, 0), (2, 0), (2, 2), (0, 2)])

    def test_all_alike(self):
        for length in range(1, 13):
            self.assertEqual(corners([(7, 7)] * length), [(7, 7)])

    def test_some_alike_are_told_once(self):
        points = [(0, 0), (4, 0), (0, 0), (0, 4), (4, 0), (1, 1), (1, 1)]
        self.assertEqual(corners(points), [(0, 0), (4, 0), (0, 4)])
        self.assertEqual(corners([(1, 0), (0, 0), (1, 0)]), [(0, 0), (1, 0)])

    def test_all_on_one_way_have_two_ends(self):
        for step in ((1, 0), (0, 1), (2, 3), (3, -2), (-1, -1)):
            points = [(step[0] * k, step[1] * k) for k in (3, -2, 0, 5, 1, -2, 5)]
            ends = [(step[0] * k, step[1] * k) for k in (-2, 5)]
            self.assertEqual(corners(points), sorted(ends))

    def test_a_point_on_an_edge_is_no_corner(self):
        square = [(0, 0), (4, 0), (4, 4), (0, 4)]
        on_edges = [(2, 0), (4, 1), (3, 4), (0, 2)]
        self.assertEqual(corners(on_edges + square), square)
        self.assertEqual(corners(square + on_edges), square)

    def test_a_point_within_is_no_corner(self):
        self.assertEqual(corners([(1, 1), (0, 0), (4, 0), (0, 4)]), [(0, 0), (4, 0), (0, 4)])

    def test_twelve_corners_round_the_hull(self):
        round_from_least = ROUND_TWELVE[6:] + ROUND_TWELVE[:6]
        self.assertEqual(corners(ROUND_TWELVE), round_from_least)
        self.assertEqual(corners(ROUND_TWELVE[::-1]), round_from_least)
        self.assertEqual(corners(ROUND_TWELVE[::2] + ROUND_TWELVE[1::2]), round_from_least)

    def test_farthest_places(self):
        square = [(-1000, -1000), (1000, -1000), (1000, 1000), (-1000, 1000)]
        self.assertEqual(corners([square[2], square[0], square[3], square[1], (0, 0)]), square)
        almost_flat = [(-1000, -1000), (1, 0), (1000, 1000)]
        self.assertEqual(corners(almost_flat), almost_flat)
        self.assertEqual(corners([(-1000, -1000), (0, 0), (1000, 1000)]), [(-1000, -1000), (1000, 1000)])

    def test_the_answer_is_a_list_of_tuples(self):
        for points in ([], [(1, 2)], [(1, 2), (1, 2)], [(0, 0), (1, 0), (0, 1)]):
            check_corners(self, points, corners(points))

    def test_every_small_list_by_the_words_of_point_7(self):
        for points in grid_lists(-1, 1, 4):
            check_corners(self, points, corners(points))
            check_corners(self, points[::-1], corners(points[::-1]))

    def test_mixed_lists_by_the_words_of_point_7(self):
        steps = Steps(7)
        for far in (1, 2, 3, 10, 1000):
            for length in range(5, 13):
                for again in range(5):
                    points = steps.points(length, far)
                    check_corners(self, points, corners(points))


if __name__ == "__main__":
    unittest.main()
