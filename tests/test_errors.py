import unittest

from sameworth import errors


class Classes(unittest.TestCase):
    def test_what_stands_under_what(self):
        self.assertEqual(errors.WorthError.__bases__, (ValueError,))
        for refusal in (errors.BadStep, errors.BadRow, errors.NoProgram):
            with self.subTest(refusal=refusal):
                self.assertEqual(refusal.__bases__, (errors.WorthError,))

    def test_where_they_are_defined(self):
        for refusal in (errors.WorthError, errors.BadStep, errors.BadRow, errors.NoProgram):
            with self.subTest(refusal=refusal):
                self.assertEqual(refusal.__module__, "sameworth.errors")


class Fields(unittest.TestCase):
    def test_bad_step(self):
        for step in (0, 7):
            self.assertEqual(errors.BadStep(step).step, step)

    def test_bad_row(self):
        for row in (0, 199):
            self.assertEqual(errors.BadRow(row).row, row)

    def test_fields_are_each_ones_own(self):
        one, other = errors.BadRow(1), errors.BadRow(2)
        self.assertEqual((one.row, other.row), (1, 2))
        self.assertFalse(hasattr(one, "step"))
        self.assertFalse(hasattr(errors.BadStep(1), "row"))

    def test_no_program_is_made_with_words(self):
        self.assertIn("no lead", str(errors.NoProgram("no lead")))

    def test_raised_and_caught(self):
        for refusal in (errors.BadStep(4), errors.BadRow(4), errors.NoProgram("words")):
            for caught in (type(refusal), errors.WorthError, ValueError):
                with self.subTest(refusal=refusal, caught=caught):
                    with self.assertRaises(caught) as held:
                        raise refusal
                    self.assertIs(held.exception, refusal)


if __name__ == "__main__":
    unittest.main()
