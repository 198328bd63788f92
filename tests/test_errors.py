import unittest

from mailroom import errors

NAMES = ["NoWord", "NoLetter", "NoRule", "NoName", "NoParcel", "NoRow"]


class ErrorsTest(unittest.TestCase):

    def test_mail_error_is_a_value_error(self):
        self.assertEqual(errors.MailError.__bases__, (ValueError,))

    def test_each_refusal_stands_straight_under_mail_error(self):
        for name in NAMES:
            with self.subTest(name):
                self.assertEqual(getattr(errors, name).__bases__, (errors.MailError,))

    def test_no_refusal_is_another(self):
        for name in NAMES:
            for other in NAMES:
                with self.subTest(name=name, other=other):
                    under = issubclass(getattr(errors, name), getattr(errors, other))
                    self.assertEqual(under, name == other)

    def test_each_is_called_by_its_name(self):
        for name in NAMES + ["MailError"]:
            with self.subTest(name):
                self.assertEqual(getattr(errors, name).__name__, name)

    def test_each_tells_its_name(self):
        for name in NAMES + ["MailError"]:
            self.assertEqual(getattr(errors, name)("some words").refusal(), name)

    def test_each_is_raised_and_taken_as_any_of_its_bases(self):
        for name in NAMES:
            for base in (getattr(errors, name), errors.MailError, ValueError):
                with self.subTest(name=name, base=base):
                    with self.assertRaises(base) as taken:
                        raise getattr(errors, name)("some words")
                    self.assertEqual(str(taken.exception), "some words")


class RowTest(unittest.TestCase):

    def test_the_row_is_0_where_none_is_told(self):
        self.assertEqual(errors.NoRule("some words").row, 0)
        self.assertEqual(errors.NoRule().row, 0)

    def test_the_row_that_is_told_is_carried(self):
        for row in (0, 1, 2, 40, 100):
            with self.subTest(row):
                self.assertEqual(errors.NoRule("some words", row).row, row)

    def test_the_row_comes_with_the_raised_error(self):
        with self.assertRaises(errors.MailError) as taken:
            raise errors.NoRule("some words", 7)
        self.assertEqual(taken.exception.row, 7)
        self.assertEqual(str(taken.exception), "some words")

    def test_each_error_has_a_row_of_its_own(self):
        first = errors.NoRule("first", 1)
        second = errors.NoRule("second", 2)
        self.assertEqual((first.row, second.row), (1, 2))


if __name__ == "__main__":
    unittest.main()
