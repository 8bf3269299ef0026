import unittest

from strikehall import errors


class Errors(unittest.TestCase):
    def test_all_stand_straight_under_one(self):
        self.assertEqual(errors.StrikeError.__bases__, (ValueError,))
        for name in ("BadProgram", "BadText", "BadPaper", "BadInput", "BadSaying", "BadJudged", "BadQuestion"):
            self.assertEqual(getattr(errors, name).__bases__, (errors.StrikeError,), name)

    def test_fields(self):
        for place in (-1, 0, 3):
            self.assertEqual(errors.BadProgram(place).place, place)
            self.assertEqual(errors.BadText(place).row, place)
        for place in (("form",), ("strike", 0), ("shown",), ("shown", 0, 1, 2)):
            self.assertEqual(errors.BadPaper(place).place, place)

    def test_made_of_a_text(self):
        for name in ("BadInput", "BadSaying", "BadJudged", "BadQuestion"):
            self.assertEqual(str(getattr(errors, name)("why")), "why")

    def test_raised_and_caught(self):
        with self.assertRaises(errors.StrikeError) as told:
            raise errors.BadProgram(2)
        self.assertEqual(told.exception.place, 2)


if __name__ == "__main__":
    unittest.main()
