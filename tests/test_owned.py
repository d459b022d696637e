"""Point 1: what is handed in stays as it was, and what is told is the asker's own."""

import unittest

from hullpart.hulls import corners, placed

LISTS = [
    [],
    [(1, 2)],
    [(3, 0), (0, 0)],
    [(3, 0), (0, 0), (3, 0)],
    [(4, 4), (0, 0), (4, 0), (2, 2), (0, 4), (2, 0)],
    [(k, k) for k in range(11, -1, -1)],
]
ASKED = [(0, 0), (1, 1), (2, 3), (9, 9), (-5, 1), (1, 2)]


class OwnedTest(unittest.TestCase):
    def test_what_is_handed_in_stays_as_it_was(self):
        for points in LISTS:
            handed = list(points)
            corners(handed)
            self.assertEqual(handed, points)
            for point in ASKED:
                placed(handed, point)
                self.assertEqual(handed, points)

    def test_told_corners_are_not_the_list_handed_in(self):
        for points in LISTS:
            handed = sorted(points)
            told = corners(handed)
            before = list(told)
            self.assertIsNot(told, handed)
            handed.append((7, -7))
            self.assertEqual(told, before)

    def test_told_corners_can_be_changed(self):
        for points in LISTS:
            told = corners(points)
            before = list(told)
            told.append((0, 0))
            told.reverse()
            self.assertEqual(corners(points), before)
            self.assertIsNot(corners(points), told)

    def test_a_told_weighing_can_be_changed(self):
        for points in LISTS:
            for point in ASKED:
                told = placed(points, point)
                if told[0] == "in":
                    before = list(told[1])
                    told[1].clear()
                    self.assertEqual(placed(points, point), ("in", before))

    def test_a_told_weighing_does_not_hang_on_what_was_handed_in(self):
        handed = [(0, 0), (6, 0), (0, 6)]
        told = placed(handed, (1, 2))
        handed.clear()
        self.assertEqual(told, ("in", [(0, 1, 2), (1, 1, 6), (2, 1, 3)]))
        self.assertEqual(corners(handed), [])

    def test_the_same_question_has_the_same_answer(self):
        for points in LISTS:
            self.assertEqual(corners(points), corners(list(points)))
            for point in ASKED:
                self.assertEqual(placed(points, point), placed(list(points), point))


if __name__ == "__main__":
    unittest.main()
