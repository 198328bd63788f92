import itertools
import re
import unittest

from helper import NO_TEXTS
from mailroom.errors import NoLetter
from mailroom.letters import Letter, letter_text, read_letter

WORD = "[a-z0-9]{1,20}"
FORM = re.compile(
    f"from ({WORD})\nday ([0-9]{{4}})\n(?:answers ({WORD})\n)?title ([^\n]{{0,60}})\n\n((?:.|\n){{0,400}})"
)
SIGNS = [chr(code) for code in range(ord(" "), ord("~") + 1)] + ["\t", "\n"]

LETTERS = [
    ("ann", "Rent", "pay", 12, ""),
    ("ann", "Rent", "pay", 12, "bob1"),
    ("a", "", "", 0, ""),
    ("a", "", "", 0, "b"),
    ("a", " ", " ", 1, ""),
    ("a", "x ", "", 9999, ""),
    ("a", "", "\n", 10, ""),
    ("a", "", "\n\n\n", 100, "b"),
    ("a", "t", "\nx\n", 1000, ""),
    ("a", "t", "x\n\n", 1, "z9"),
    ("a", "title t", "title t\n\nx", 1, ""),
    ("a", "answers b", "from b\nday 0002\nanswers c\ntitle t\n\nx", 1, ""),
    ("a", "from b", "\nfrom b\nday 0002\ntitle t\n\nx", 1, "c"),
    ("from", "day 0001", "day 0001", 1, "answers"),
    ("title", "", "title \n\n", 1, "title"),
    ("z" * 20, "t" * 60, "b" * 400, 9999, "9" * 20),
    ("z" * 20, " " * 60, "\n" * 400, 9999, ""),
    ("a", "\t", "\t", 7, ""),
    ("0", "".join(SIGNS[4:60]), "".join(SIGNS), 5, "0"),
]


def read_by_form(text):
    """The parts of the letter of which this is the text, or None: an answer by other means."""
    found = FORM.fullmatch(text)
    if found is None:
        return None
    sender, day, answers, title, body = found.groups()
    return (sender, title, body, int(day), answers or "")


class WriteTest(unittest.TestCase):

    def test_a_letter_that_answers_none(self):
        text = letter_text(Letter("ann", "Pay the RENT", "by\nfriday", 12))
        self.assertEqual(text, "from ann\nday 0012\ntitle Pay the RENT\n\nby\nfriday")

    def test_a_letter_that_answers_one(self):
        text = letter_text(Letter("ann", "Pay", "now", 1234, "bob1"))
        self.assertEqual(text, "from ann\nday 1234\nanswers bob1\ntitle Pay\n\nnow")

    def test_an_empty_title_and_an_empty_body(self):
        self.assertEqual(letter_text(Letter("a", "", "x", 0)), "from a\nday 0000\ntitle \n\nx")
        self.assertEqual(letter_text(Letter("a", "t", "", 9)), "from a\nday 0009\ntitle t\n\n")
        self.assertEqual(letter_text(Letter("a", "", "", 9999, "b")), "from a\nday 9999\nanswers b\ntitle \n\n")

    def test_days_by_four_figures(self):
        for day, figures in ((0, "0000"), (7, "0007"), (70, "0070"), (700, "0700"), (7000, "7000"), (9999, "9999")):
            with self.subTest(day):
                self.assertEqual(letter_text(Letter("a", "t", "b", day)), f"from a\nday {figures}\ntitle t\n\nb")

    def test_the_body_as_it_is(self):
        for body in ("\n", "\n\n", "x\n", "\nx", " x ", "from a\nday 0001\ntitle t\n\nx", "\t"):
            with self.subTest(body):
                self.assertEqual(letter_text(Letter("a", "t", body, 1)), "from a\nday 0001\ntitle t\n\n" + body)

    def test_the_letter_stays(self):
        for parts in LETTERS:
            letter = Letter(*parts)
            letter_text(letter)
            self.assertEqual(letter.parts(), parts)


class ReadTest(unittest.TestCase):

    def assert_refused(self, text):
        with self.assertRaises(NoLetter):
            read_letter(text)

    def assert_read_as_by_form(self, text):
        wanted = read_by_form(text)
        try:
            told = read_letter(text).parts()
        except NoLetter:
            told = None
        if told != wanted:
            self.assertEqual(told, wanted, text)

    def test_each_text_is_read_back(self):
        for parts in LETTERS:
            with self.subTest(parts):
                letter = read_letter(letter_text(Letter(*parts)))
                self.assertIsInstance(letter, Letter)
                self.assertEqual(letter.parts(), parts)

    def test_every_day_is_read_back(self):
        for day in range(10000):
            if read_letter(letter_text(Letter("a", "t", "b", day))).day != day:
                self.fail(day)

    def test_bodies_of_few_signs_are_read_back(self):
        for length in range(6):
            for signs in itertools.product("\n at", repeat=length):
                for answers in ("", "b"):
                    parts = ("a", "".join(signs).replace("\n", ""), "".join(signs), 1, answers)
                    if read_letter(letter_text(Letter(*parts))).parts() != parts:
                        self.fail(parts)

    def test_texts_that_are_refused(self):
        for text in (
            "", " ", "\n", "\n\n", "\n\n\n\n\n", "from ann", "from \nday \ntitle \n\n",
            "from ann\nday 0012\ntitle Rent",
            "from ann\nday 0012\ntitle Rent\n",
            "from ann\nday 0012\ntitle Rent\npay",
            "from ann\nday 0012\ntitle Rent\n \npay",
            "from ann\nday 0012\ntitle\n\npay",
            "from ann\nday 0012\nanswers \ntitle Rent\n\npay",
            "from ann\nday 0012\nanswers\ntitle Rent\n\npay",
            "from ann\nday 0012\nanswers bob1\nanswers bob1\ntitle Rent\n\npay",
            "from ann\nday 0012\nanswers bob1\n\npay",
            "from ann\nday 0012\ntitle Rent\nanswers bob1\n\npay",
            "from ann\nday 0012\ntitle Rent\ntitle Rent\n\npay",
            "from ann\n\nday 0012\ntitle Rent\n\npay",
            "\nfrom ann\nday 0012\ntitle Rent\n\npay",
            "day 0012\nfrom ann\ntitle Rent\n\npay",
            "From ann\nday 0012\ntitle Rent\n\npay",
            "from Ann\nday 0012\ntitle Rent\n\npay",
            "from  ann\nday 0012\ntitle Rent\n\npay",
            "from ann \nday 0012\ntitle Rent\n\npay",
            "from ann\r\nday 0012\r\ntitle Rent\r\n\r\npay",
            "from " + "a" * 21 + "\nday 0012\ntitle Rent\n\npay",
            "from ann\nday 0012\nanswers " + "a" * 21 + "\ntitle Rent\n\npay",
            "from ann\nday 0012\ntitle " + "t" * 61 + "\n\npay",
            "from ann\nday 0012\ntitle Rent\n\n" + "b" * 401,
            "from ann\nday 0012\ntitle Rent\n\n" + "\n" * 401,
        ):
            with self.subTest(text):
                self.assert_refused(text)

    def test_days_that_are_refused(self):
        for day in (
            "", " ", "1", "12", "012", "00012", "10000", "12345", "-001", "+001", " 001", "001 ", "1_00", "1.00",
            "0x12", "abcd", "001a", "a001", "00\t1", "1" * 5000, "\u0661\u0662\u0663\u0664", "\u00b2\u00b2\u00b2\u00b2",
        ):
            with self.subTest(day[:20]):
                self.assert_refused(f"from ann\nday {day}\ntitle Rent\n\npay")

    def test_the_rows_in_any_other_number_or_order(self):
        rows = ["from ann", "day 0012", "answers bob1", "title Rent", "", "pay"]
        for length in range(7):
            for some in itertools.product(rows, repeat=length):
                self.assert_read_as_by_form("\n".join(some))

    def test_a_sign_too_few_at_each_place(self):
        for parts in LETTERS:
            text = letter_text(Letter(*parts))
            for place in range(len(text)):
                self.assert_read_as_by_form(text[:place] + text[place + 1:])

    def test_a_sign_too_many_or_another_at_each_place(self):
        for parts in LETTERS[:14]:
            text = letter_text(Letter(*parts))
            for place in range(len(text) + 1):
                for sign in SIGNS:
                    self.assert_read_as_by_form(text[:place] + sign + text[place:])
                    self.assert_read_as_by_form(text[:place] + sign + text[place + 1:])

    def test_the_longest_letters_with_a_sign_too_many(self):
        for parts in LETTERS[14:]:
            text = letter_text(Letter(*parts))
            for place in range(len(text) + 1):
                for sign in "a0 \n":
                    self.assert_read_as_by_form(text[:place] + sign + text[place:])

    def test_each_beginning_and_each_end_of_a_text(self):
        for parts in LETTERS:
            text = letter_text(Letter(*parts))
            for place in range(len(text) + 1):
                self.assert_read_as_by_form(text[:place])
                self.assert_read_as_by_form(text[place:])

    def test_the_near_texts_are_refused_and_read_both(self):
        self.assertIsNone(read_by_form("from ann\nday 012\ntitle Rent\n\npay"))
        self.assertEqual(read_by_form("from ann\nday 0012\ntitle Rent\n\npay"), LETTERS[0])
        self.assertEqual(read_by_form("from ann\nday 0012\nanswers bob1\ntitle Rent\n\npay"), LETTERS[1])

    def test_things_that_are_no_text(self):
        for thing in NO_TEXTS:
            with self.subTest(repr(thing)):
                self.assert_refused(thing)


if __name__ == "__main__":
    unittest.main()
