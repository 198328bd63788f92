import unittest

from helper import NO_TEXTS
from mailroom.errors import NoLetter
from mailroom.letters import Letter, letter_of

PARTS = ("ann", "Pay the RENT", "by friday", 12, "bob1")
PLACES = ["sender", "title", "body", "day", "answers"]


def with_part(name, thing):
    parts = list(PARTS)
    parts[PLACES.index(name)] = thing
    return tuple(parts)


class LetterCase(unittest.TestCase):

    def assert_taken(self, parts):
        letter = Letter(*parts)
        fields = (letter.sender, letter.title, letter.body, letter.day, letter.answers)
        self.assertEqual(fields, parts)
        for told in (letter.parts(), letter_of(parts).parts()):
            self.assertIsInstance(told, tuple)
            self.assertEqual(told, parts)

    def assert_refused(self, parts):
        with self.assertRaises(NoLetter):
            Letter(*parts)
        with self.assertRaises(NoLetter):
            letter_of(parts)


class PartsTest(LetterCase):

    def test_an_ordinary_letter(self):
        self.assert_taken(PARTS)

    def test_answers_left_out(self):
        letter = Letter("ann", "Rent", "pay", 3)
        self.assertEqual(letter.answers, "")
        self.assertEqual(letter.parts(), ("ann", "Rent", "pay", 3, ""))

    def test_words_as_sender_and_as_what_it_answers(self):
        for name in ("sender", "answers"):
            for text in ("a", "z", "0", "9", "a" * 20, "9" * 20, "from", "inbox"):
                with self.subTest(name=name, text=text):
                    self.assert_taken(with_part(name, text))

    def test_texts_that_are_no_words_as_sender_and_as_what_it_answers(self):
        for name in ("sender", "answers"):
            for text in ("a" * 21, "A", "aB", " ", "a ", " a", "a b", "a\n", "\na", "a\nb", "a\t", "a-b", "\n"):
                with self.subTest(name=name, text=text):
                    self.assert_refused(with_part(name, text))

    def test_nothing_as_what_it_answers_but_not_as_sender(self):
        self.assert_taken(with_part("answers", ""))
        self.assert_refused(with_part("sender", ""))

    def test_titles_by_their_lengths(self):
        for sign in ("a", " ", "~", "\t"):
            for length in (0, 1, 59, 60):
                with self.subTest(sign=sign, length=length):
                    self.assert_taken(with_part("title", sign * length))
            for length in (61, 62, 400, 1000):
                with self.subTest(sign=sign, length=length):
                    self.assert_refused(with_part("title", sign * length))

    def test_titles_with_a_line_feed(self):
        for title in ("\n", "\nrent", "rent\n", "re\nnt", "\n\n", "a" * 59 + "\n", "\n" + "a" * 59):
            with self.subTest(title):
                self.assert_refused(with_part("title", title))

    def test_bodies_by_their_lengths(self):
        for sign in ("a", " ", "~", "\n", "\t"):
            for length in (0, 1, 60, 61, 399, 400):
                with self.subTest(sign=sign, length=length):
                    self.assert_taken(with_part("body", sign * length))
            for length in (401, 402, 2000):
                with self.subTest(sign=sign, length=length):
                    self.assert_refused(with_part("body", sign * length))

    def test_days(self):
        for day in (0, 1, 9, 10, 999, 1000, 9998, 9999):
            with self.subTest(day):
                self.assert_taken(with_part("day", day))
        for day in (-1, -9999, 10000, 10001, 10 ** 30, -10 ** 30):
            with self.subTest(day):
                self.assert_refused(with_part("day", day))

    def test_truths_are_no_days(self):
        self.assert_refused(with_part("day", True))
        self.assert_refused(with_part("day", False))

    def test_other_things_as_a_day(self):
        things = [thing for thing in NO_TEXTS if not isinstance(thing, int)]
        for thing in things + ["", "0", "12", "0012", 0.0, 12.0]:
            with self.subTest(repr(thing)):
                self.assert_refused(with_part("day", thing))

    def test_other_things_in_the_place_of_each_text(self):
        for name in ("sender", "title", "body", "answers"):
            for thing in NO_TEXTS:
                with self.subTest(name=name, thing=repr(thing)):
                    self.assert_refused(with_part(name, thing))

    def test_several_wrong_parts(self):
        self.assert_refused(("", "a\nb", None, True, "A"))
        self.assert_refused((None, None, None, None, None))

    def test_parts_are_told_anew_and_stay(self):
        letter = Letter(*PARTS)
        self.assertEqual(letter.parts(), PARTS)
        self.assertEqual(letter.parts(), PARTS)
        letter.words().append("more")
        self.assertEqual(letter.parts(), PARTS)

    def test_what_is_refused_changes_nothing(self):
        thing = ["ann", "Rent", "pay", 3, ""]
        with self.assertRaises(NoLetter):
            letter_of(thing)
        self.assertEqual(thing, ["ann", "Rent", "pay", 3, ""])
        title = ["Rent"]
        with self.assertRaises(NoLetter):
            Letter("ann", title, "pay", 3)
        self.assertEqual(title, ["Rent"])


class LetterOfTest(LetterCase):

    def test_the_parts_of_a_letter(self):
        for parts in (PARTS, ("a", "", "", 0, ""), ("z" * 20, "t" * 60, "\n" * 400, 9999, "9" * 20)):
            with self.subTest(parts):
                letter = letter_of(Letter(*parts).parts())
                self.assertIsInstance(letter, Letter)
                self.assertEqual(letter.parts(), parts)

    def test_it_is_a_new_letter_each_time(self):
        self.assertIsNot(letter_of(PARTS), letter_of(PARTS))

    def test_tuples_of_other_lengths(self):
        for length in range(5):
            with self.subTest(length):
                with self.assertRaises(NoLetter):
                    letter_of(PARTS[:length])
        for more in ((None,), ("",), ("a",), PARTS):
            with self.subTest(more):
                with self.assertRaises(NoLetter):
                    letter_of(PARTS + more)

    def test_a_list_of_five(self):
        with self.assertRaises(NoLetter):
            letter_of(list(PARTS))

    def test_other_things(self):
        things = ["", "abcde", "from ann", dict(enumerate(PARTS)), dict.fromkeys(["a", "b", "c", "d", "e"]), (PARTS,)]
        for thing in NO_TEXTS + things + [Letter(*PARTS)]:
            with self.subTest(repr(thing)):
                with self.assertRaises(NoLetter):
                    letter_of(thing)


class LetterWordsTest(unittest.TestCase):

    def test_the_titles_words_come_first(self):
        letter = Letter("ann", "Pay the RENT", "the day, pay! by a-1", 1)
        self.assertEqual(letter.words(), ["pay", "the", "rent", "day", "by", "a", "1"])
        self.assertEqual(letter.title_words(), ["pay", "the", "rent"])

    def test_each_once_great_and_small(self):
        letter = Letter("ann", "B a b A B", "a C c b C d", 1)
        self.assertEqual(letter.words(), ["b", "a", "c", "d"])
        self.assertEqual(letter.title_words(), ["b", "a"])

    def test_no_word_goes_on_from_the_title_into_the_body(self):
        letter = Letter("ann", "pay", "rent", 1)
        self.assertEqual(letter.words(), ["pay", "rent"])
        self.assertEqual(letter.title_words(), ["pay"])

    def test_empty_titles_and_bodies(self):
        self.assertEqual(Letter("ann", "", "", 1).words(), [])
        self.assertEqual(Letter("ann", "", "", 1).title_words(), [])
        self.assertEqual(Letter("ann", "", "a b", 1).words(), ["a", "b"])
        self.assertEqual(Letter("ann", "", "a b", 1).title_words(), [])
        self.assertEqual(Letter("ann", "a b", "", 1).words(), ["a", "b"])

    def test_the_sender_the_day_and_what_it_answers_are_no_words_of_it(self):
        letter = Letter("ann", "rent", "pay", 12, "bob1")
        self.assertEqual(letter.words(), ["rent", "pay"])

    def test_runs_of_more_than_20_signs(self):
        letter = Letter("ann", "T" * 60, "b" * 400, 1)
        self.assertEqual(letter.words(), ["t" * 60, "b" * 400])
        self.assertEqual(letter.title_words(), ["t" * 60])

    def test_words_are_parted_by_line_feeds_and_tabs(self):
        letter = Letter("ann", "a\tb", "c\nd\te", 1)
        self.assertEqual(letter.words(), ["a", "b", "c", "d", "e"])
        self.assertEqual(letter.title_words(), ["a", "b"])

    def test_the_lists_are_new_each_time(self):
        letter = Letter("ann", "pay", "rent", 1)
        for ask, wanted in ((letter.words, ["pay", "rent"]), (letter.title_words, ["pay"])):
            told = ask()
            told.append("more")
            told[0] = "other"
            self.assertEqual(ask(), wanted)
            self.assertIsNot(ask(), ask())


if __name__ == "__main__":
    unittest.main()
