import re
import unittest
from itertools import product

from hullpart.errors import NoNote, NoPoint
from hullpart.notes import read, shown
from papers import Steps, check_refused, is_whole

NOTES = [
    ("", []),
    ("0,0", [(0, 0)]),
    ("3,-4", [(3, -4)]),
    ("-1,-1", [(-1, -1)]),
    ("10,100", [(10, 100)]),
    ("1000,-1000", [(1000, -1000)]),
    ("-1000,1000", [(-1000, 1000)]),
    ("0,0 3,-4 -10,7", [(0, 0), (3, -4), (-10, 7)]),
    ("5,5 5,5", [(5, 5), (5, 5)]),
    ("2,1 1,2", [(2, 1), (1, 2)]),
    (" ".join(["-1000,-1000"] * 12), [(-1000, -1000)] * 12),
]
SIGNS = [chr(code) for code in range(32, 127) if chr(code) != "%"] + ["\t", "\n"]


class NotesTest(unittest.TestCase):
    def check_refused(self, *texts):
        for text in texts:
            check_refused(self, NoNote, read, text)

    def test_shown(self):
        for text, points in NOTES:
            told = shown(points)
            self.assertIs(type(told), str)
            self.assertEqual(told, text)

    def test_read(self):
        for text, points in NOTES:
            told = read(text)
            self.assertEqual(told, points)
            self.assertIs(type(told), list)
            for point in told:
                self.assertIs(type(point), tuple)
                self.assertTrue(all(is_whole(place) for place in point))

    def test_there_and_back(self):
        steps = Steps(37)
        for far in (1, 10, 99, 1000):
            for length in range(13):
                points = steps.points(length, far)
                self.assertEqual(read(shown(points)), points)
                self.assertEqual(shown(read(shown(points))), shown(points))

    def test_every_place_there_and_back(self):
        for place in range(-1000, 1001):
            self.assertEqual(shown([(place, 0), (0, place)]), str(place) + ",0 0," + str(place))
            self.assertEqual(read(str(place) + ",0 0," + str(place)), [(place, 0), (0, place)])

    def test_places_beyond_the_bounds(self):
        for place in ("1001", "-1001", "9999", "10000", "-10000", "9" * 30, "-" + "9" * 30, "1" + "0" * 297):
            self.check_refused(place + ",0", "0," + place, "1,1 " + place + ",0", "0," + place + " 1,1")

    def test_noughts_ahead_and_signs(self):
        for place in "00 01 007 -01 -0 -00 +0 +1 --1 +-1 -+1 1- - +".split() + ["- 1", "-\t1"]:
            self.check_refused(place + ",0", "0," + place, "1,1 " + place + ",2")

    def test_letters_underscores_and_other_numbers(self):
        for place in "a x1 1x 1_0 _1 1_ 1e2 0x1 0b1 1.0 1. .5 1/1 1L None O l".split():
            self.check_refused(place + ",0", "0," + place, "1,1 2," + place)

    def test_a_third_place_or_one_less(self):
        self.check_refused("1", "-1", "1,", ",1", ",", "1 2", "1,2 3", "1 2,3")
        self.check_refused("1,2,3", "1,2 3,4,5", "1,,2", "1,2,", ",1,2")

    def test_other_signs_between(self):
        for sign in SIGNS:
            if sign != ",":
                self.check_refused("1" + sign + "2")
            if sign != " ":
                self.check_refused("1,2" + sign + "3,4")
        self.check_refused("1;2", "(1,2)", "[(1, 2)]", "1,2;3,4", "1,2,3,4", "1,2\\3,4", "1,2-3,4")

    def test_blanks_tabs_and_line_ends(self):
        for blank in (" ", "  ", "\t", "\n", "\n\n", " \n", "\t "):
            self.check_refused(blank, blank + "1,2", "1,2" + blank, "1," + blank + "2", "1" + blank + ",2")
            self.check_refused("1,2 " + blank + "3,4", "1,2" + blank + " 3,4", "1,2 3,4" + blank)
            if blank != " ":
                self.check_refused("1,2" + blank + "3,4")

    def test_more_than_twelve_points(self):
        for length in (13, 14, 40):
            self.check_refused(" ".join(["1,1"] * length))
        self.check_refused(" ".join(["1,1"] * 12 + ["1001,1"]), " ".join(["1,1"] * 13) + " ")

    def test_commas_or_blanks_alone(self):
        for length in (1, 2, 3, 11, 12, 13, 300):
            self.check_refused("," * length, " " * length)
        self.check_refused(", ,", " , ", ",  ,")

    def test_every_short_text_by_its_form(self):
        place = "(0|-?([1-9][0-9]{0,2}|1000))"
        form = re.compile(f"({place},{place}( {place},{place})*)?")
        for length in range(7):
            for signs in product("01-, ", repeat=length):
                self.check_by_form(form, "".join(signs))
        for length in range(4):
            for signs in product("1,\t\n+_a ", repeat=length):
                self.check_by_form(form, "".join(signs))

    def check_by_form(self, form, text):
        if form.fullmatch(text):
            self.assertEqual(shown(read(text)), text)
        else:
            self.check_refused(text)

    def test_shown_refuses_no_points(self):
        check_refused(self, NoPoint, shown, [(1, 1)] * 13)
        check_refused(self, NoPoint, shown, [(1, 1)] * 40)
        for bad in (1001, -1001, 10**30 - 1, 1 - 10**30):
            check_refused(self, NoPoint, shown, [(0, 0), (bad, 0)])
            check_refused(self, NoPoint, shown, [(0, bad), (0, 0)])


if __name__ == "__main__":
    unittest.main()
