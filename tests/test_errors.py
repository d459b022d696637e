import unittest

from hullpart.errors import HullError, NoFour, NoMiddle, NoNote, NoPoint, NoSpot


class ErrorsTest(unittest.TestCase):
    def test_hull_error_stands_straight_under_value_error(self):
        self.assertEqual(HullError.__bases__, (ValueError,))

    def test_each_refusal_stands_straight_under_hull_error(self):
        for refusal in (NoPoint, NoSpot, NoFour, NoMiddle, NoNote):
            self.assertEqual(refusal.__bases__, (HullError,))

    def test_the_refusals_bear_their_names(self):
        names = [refusal.__name__ for refusal in (HullError, NoPoint, NoSpot, NoFour, NoMiddle, NoNote)]
        self.assertEqual(names, ["HullError", "NoPoint", "NoSpot", "NoFour", "NoMiddle", "NoNote"])


if __name__ == "__main__":
    unittest.main()
