import unittest

from farclocks.errors import Barred, ClockError, NoEvent, NoNumber, NoRecord, NoText, NoWorld, Nothing

REFUSALS = [NoRecord, NoEvent, NoNumber, NoWorld, Barred, Nothing, NoText]


class Errors(unittest.TestCase):
    def test_clock_error_is_a_value_error(self):
        self.assertTrue(issubclass(ClockError, ValueError))

    def test_all_stand_under_clock_error(self):
        for refusal in REFUSALS:
            self.assertTrue(issubclass(refusal, ClockError), refusal)
            self.assertIsNot(refusal, ClockError)

    def test_none_stands_under_another(self):
        for one in REFUSALS:
            for other in REFUSALS:
                self.assertEqual(issubclass(one, other), one is other, (one, other))

    def test_names(self):
        names = [refusal.__name__ for refusal in REFUSALS]
        self.assertEqual(names, ["NoRecord", "NoEvent", "NoNumber", "NoWorld", "Barred", "Nothing", "NoText"])

    def test_each_is_caught_as_value_error(self):
        for refusal in REFUSALS:
            with self.assertRaises(ValueError):
                raise refusal("why")


if __name__ == "__main__":
    unittest.main()
