import unittest

from stairlanes import errors
from stairlanes.errors import LaneError, NoDeed, NoGroup, NoLine, NotEven, NoText


class ErrorsTest(unittest.TestCase):
    def test_lane_error_stands_straight_under_value_error(self):
        self.assertEqual(LaneError.__bases__, (ValueError,))

    def test_each_refusal_stands_straight_under_lane_error(self):
        for refusal in (NoDeed, NoGroup, NoText, NotEven, NoLine):
            self.assertEqual(refusal.__bases__, (LaneError,))

    def test_names(self):
        for name in ("LaneError", "NoDeed", "NoGroup", "NoText", "NotEven", "NoLine"):
            self.assertEqual(getattr(errors, name).__name__, name)

    def test_values(self):
        for place in (0, 1, 399):
            self.assertEqual(NoDeed(place).place, place)
            self.assertEqual(NoGroup(place).place, place)
            self.assertEqual(NoText(place).row, place)

    def test_each_object_has_its_own_value(self):
        one, other = NoDeed(1), NoDeed(2)
        self.assertEqual((one.place, other.place), (1, 2))

    def test_made_with_a_text(self):
        self.assertEqual(str(NotEven("lane 3")), "lane 3")
        self.assertEqual(str(NoLine("what is this")), "what is this")


if __name__ == "__main__":
    unittest.main()
