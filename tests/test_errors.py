import unittest

from fitwhatever import errors

REFUSALS = [
    "NoNumber", "NoSum", "NoSize", "NoMaking", "NoPart", "NoFace", "NoJoint", "TooMany",
    "NoFit", "NoProgram", "NoDealing", "NoBins", "NoSheet", "NoRow",
]


class ErrorsTest(unittest.TestCase):
    def test_fit_error_stands_under_value_error(self):
        self.assertEqual(errors.FitError.__bases__, (ValueError,))

    def test_each_refusal_stands_under_fit_error(self):
        for name in REFUSALS:
            with self.subTest(name):
                self.assertTrue(issubclass(getattr(errors, name), errors.FitError))

    def test_no_refusal_stands_under_another_one(self):
        for one in REFUSALS:
            for other in REFUSALS:
                if one != other:
                    self.assertFalse(issubclass(getattr(errors, one), getattr(errors, other)), (one, other))

    def test_no_fit_has_its_chain(self):
        self.assertEqual(errors.NoFit((0, 2)).chain, (0, 2))
        self.assertIsNone(errors.NoFit(None).chain)

    def test_no_sheet_has_its_row(self):
        self.assertEqual(errors.NoSheet(7).row, 7)

    def test_fields_are_there_when_taken(self):
        with self.assertRaises(errors.NoFit) as fit:
            raise errors.NoFit((3,))
        self.assertEqual(fit.exception.chain, (3,))
        with self.assertRaises(errors.NoSheet) as sheet:
            raise errors.NoSheet(1)
        self.assertEqual(sheet.exception.row, 1)


if __name__ == "__main__":
    unittest.main()
