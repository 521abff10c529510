"""The refusals of the interface."""

import unittest

from openhouses import errors

REFUSALS = [
    "NoMap", "NoCase", "NoTree", "NoCover", "NoOpening", "NoPlace", "NoWay", "NoSite", "NoNumber", "NoFolk",
    "NoBack", "NoNames", "NoText", "NoRow",
]


def refusal(name):
    return getattr(errors, name)


class Errors(unittest.TestCase):
    def test_house_error_is_a_value_error(self):
        self.assertTrue(issubclass(errors.HouseError, ValueError))
        self.assertNotEqual(errors.HouseError, ValueError)

    def test_each_refusal_is_a_house_error_of_its_own(self):
        for name in REFUSALS:
            self.assertEqual(refusal(name).__bases__, (errors.HouseError,), name)

    def test_no_refusal_is_under_another_one(self):
        for name in REFUSALS:
            for other in REFUSALS:
                self.assertEqual(issubclass(refusal(name), refusal(other)), name == other, (name, other))

    def test_each_refusal_is_caught_as_a_house_error(self):
        for name in REFUSALS:
            with self.assertRaises(errors.HouseError):
                raise refusal(name)(0 if name == "NoText" else "why")

    def test_no_text_keeps_its_line(self):
        for line in (0, 1, 7, 1000, 10 ** 30):
            with self.assertRaises(errors.NoText) as caught:
                raise errors.NoText(line)
            self.assertEqual(caught.exception.line, line)

    def test_each_no_text_has_a_line_of_its_own(self):
        one, other = errors.NoText(3), errors.NoText(4)
        self.assertEqual((one.line, other.line), (3, 4))


if __name__ == "__main__":
    unittest.main()
