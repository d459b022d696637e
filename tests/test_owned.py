"""Point 1: what is handed in stays as it was, and what is told is the asker's own."""

import unittest

from hullpart.depths import depth, middle
from hullpart.errors import HullError
from hullpart.hulls import corners, placed
from hullpart.notes import read, shown
from hullpart.parting import four_parted, parted

LISTS = [
    [],
    [(1, 2)],
    [(3, 0), (0, 0)],
    [(3, 0), (0, 0), (3, 0)],
    [(4, 4), (0, 0), (4, 0), (2, 2), (0, 4), (2, 0)],
    [(k, k) for k in range(11, -1, -1)],
]
ASKED = [(0, 0), (1, 1), (2, 3), (9, 9), (-5, 1), (1, 2)]
FOURS = [
    [(0, 0), (4, 0), (4, 4), (0, 4)],
    [(0, 0), (1, 1), (6, 0), (0, 6)],
    [(3, 3), (2, 2), (1, 1), (0, 0)],
    [(5, 5)] * 4,
]


def questions():
    """Each question with lists of its own, so that a test may change them."""
    asked = [(ask, [list(points)]) for ask in (corners, shown, middle, four_parted) for points in LISTS + FOURS]
    asked += [(placed, [list(points), point]) for points in LISTS + FOURS for point in ASKED]
    asked += [(parted, [list(ones), list(others)]) for ones in LISTS + FOURS for others in LISTS + FOURS]
    asked += [(depth, [list(points), (x, y, 2)]) for points in LISTS + FOURS for x, y in ((1, 1), (4, 3), (99, 1))]
    asked += [(depth, [list(points), (x, y, 4)]) for points in LISTS + FOURS for x, y in ((2, 2), (4, 6))]
    return asked + [(read, [text]) for text in ("", "1,2", "1,2 -3,4", "1,2  3,4")]


def answer(ask, handed):
    try:
        return ask(*handed)
    except HullError as refusal:
        return type(refusal)


def frozen(value):
    """The same value with no list in it that could be changed."""
    if type(value) in (list, tuple):
        return (type(value), tuple(frozen(part) for part in value))
    return value


def lists_of(value):
    found = [value] if type(value) is list else []
    for part in value if type(value) in (list, tuple) else ():
        found += lists_of(part)
    return found


class OwnedTest(unittest.TestCase):
    def test_what_is_handed_in_stays_as_it_was(self):
        for ask, handed in questions():
            before = frozen(handed)
            answer(ask, handed)
            self.assertEqual(frozen(handed), before, ask)

    def test_what_is_told_does_not_hang_on_what_was_handed_in(self):
        for ask, handed in questions():
            told = answer(ask, handed)
            before = frozen(told)
            for given in lists_of(handed[:1]) + lists_of(handed[1:]):
                given.append((7, -7))
                given.reverse()
            self.assertEqual(frozen(told), before, ask)

    def test_what_was_told_can_be_changed(self):
        for ask, handed in questions():
            asked_with = frozen(handed)
            told = answer(ask, handed)
            before = frozen(told)
            for own in lists_of(told):
                own.append((7, -7))
                own.reverse()
            self.assertEqual(frozen(handed), asked_with, ask)
            self.assertEqual(frozen(answer(ask, handed)), before, ask)

    def test_no_two_lists_of_what_is_told_are_one(self):
        many = 0
        for ask, handed in questions():
            told = lists_of(answer(ask, handed)) + lists_of(answer(ask, handed)) + lists_of(handed)
            self.assertEqual(len(told), len({id(one) for one in told}), ask)
            many += len(told)
        self.assertGreater(many, 100)

    def test_one_list_handed_in_twice(self):
        for points in LISTS + FOURS:
            handed = list(points)
            told = parted(handed, handed)
            self.assertEqual(handed, points)
            self.assertEqual(told, parted(list(points), list(points)))
            self.assertEqual(len(lists_of(told)), len({id(one) for one in lists_of(told)}))

    def test_told_corners_are_not_the_list_handed_in(self):
        for points in LISTS:
            handed = sorted(points)
            told = corners(handed)
            before = list(told)
            self.assertIsNot(told, handed)
            handed.append((7, -7))
            self.assertEqual(told, before)

    def test_told_corners_can_be_changed(self):
        for points in LISTS:
            told = corners(points)
            before = list(told)
            told.append((0, 0))
            told.reverse()
            self.assertEqual(corners(points), before)
            self.assertIsNot(corners(points), told)

    def test_a_told_weighing_can_be_changed(self):
        for points in LISTS:
            for point in ASKED:
                told = placed(points, point)
                if told[0] == "in":
                    before = list(told[1])
                    told[1].clear()
                    self.assertEqual(placed(points, point), ("in", before))

    def test_a_told_weighing_does_not_hang_on_what_was_handed_in(self):
        handed = [(0, 0), (6, 0), (0, 6)]
        told = placed(handed, (1, 2))
        handed.clear()
        self.assertEqual(told, ("in", [(0, 1, 2), (1, 1, 6), (2, 1, 3)]))
        self.assertEqual(corners(handed), [])

    def test_the_same_question_has_the_same_answer(self):
        first = [frozen(answer(ask, handed)) for ask, handed in questions()]
        again = [frozen(answer(ask, handed)) for ask, handed in questions()[::-1]]
        self.assertEqual(first, again[::-1])


if __name__ == "__main__":
    unittest.main()
