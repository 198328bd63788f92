import itertools
import re
import unittest

from helper import NO_TEXTS
from mailroom.words import each_once, is_word, words_of

SIGNS = [chr(code) for code in range(ord(" "), ord("~") + 1)] + ["\t", "\n"]
WORD_SIGNS = "abcdefghijklmnopqrstuvwxyz0123456789"


class IsWordTest(unittest.TestCase):

    def test_lengths(self):
        for sign in "az09":
            for length in range(0, 45):
                with self.subTest(sign=sign, length=length):
                    self.assertIs(is_word(sign * length), 1 <= length <= 20)

    def test_every_sign_alone(self):
        for sign in SIGNS:
            with self.subTest(sign):
                self.assertIs(is_word(sign), sign in WORD_SIGNS)

    def test_every_sign_at_every_place(self):
        for word in ("ab", "rent1", "a" * 20, "7" * 20):
            for place in range(len(word)):
                for sign in SIGNS:
                    text = word[:place] + sign + word[place + 1:]
                    with self.subTest(text):
                        self.assertIs(is_word(text), sign in WORD_SIGNS)

    def test_a_sign_ahead_of_a_word_or_behind_it(self):
        for sign in SIGNS:
            for text in (sign + "rent", "rent" + sign, "re" + sign + "nt"):
                with self.subTest(text):
                    self.assertIs(is_word(text), sign in WORD_SIGNS)

    def test_letters_of_other_scripts_are_no_signs_of_a_word(self):
        for sign in ("\u00e4", "\u00b2", "\u0661", "\u212a", "\uff41"):
            with self.subTest(sign):
                self.assertIs(is_word(sign), False)
                self.assertIs(is_word("a" + sign), False)

    def test_things_that_are_no_text(self):
        for thing in NO_TEXTS:
            with self.subTest(repr(thing)):
                self.assertIs(is_word(thing), False)


class WordsOfTest(unittest.TestCase):

    def test_the_words_that_the_document_tells(self):
        self.assertEqual(words_of("Pay the RENT, a-1!"), ["pay", "the", "rent", "a", "1"])

    def test_texts_without_a_word(self):
        for text in ("", " ", "\n", "\t", "   ", "-", "...", " ,;\n\t!~ ", "_", "@[`{/:"):
            with self.subTest(text):
                self.assertEqual(words_of(text), [])

    def test_runs_at_the_beginning_and_the_end(self):
        self.assertEqual(words_of("pay"), ["pay"])
        self.assertEqual(words_of("pay!"), ["pay"])
        self.assertEqual(words_of("!pay"), ["pay"])
        self.assertEqual(words_of("pay,RENT"), ["pay", "rent"])
        self.assertEqual(words_of("\npay\trent\n"), ["pay", "rent"])

    def test_letters_and_figures_make_one_run(self):
        self.assertEqual(words_of("a1B2 3c"), ["a1b2", "3c"])

    def test_runs_of_more_than_20_signs_are_told_whole(self):
        for length in (19, 20, 21, 22, 400, 2000):
            with self.subTest(length):
                self.assertEqual(words_of("-" + "aB" * length + " c"), ["ab" * length, "c"])

    def test_a_word_that_stands_twice_is_told_twice(self):
        self.assertEqual(words_of("a b A a"), ["a", "b", "a", "a"])

    def test_the_order_is_that_of_the_text(self):
        self.assertEqual(words_of("c a b 2 10 1"), ["c", "a", "b", "2", "10", "1"])

    def test_every_sign_between_two_runs(self):
        for sign in SIGNS:
            text = "Ab" + sign + "cD"
            with self.subTest(text):
                inner = re.fullmatch("[a-zA-Z0-9]", sign)
                wanted = ["ab" + sign.lower() + "cd"] if inner else ["ab", "cd"]
                self.assertEqual(words_of(text), wanted)

    def test_all_short_texts_of_some_signs(self):
        for length in range(6):
            for signs in itertools.product("aZ0 -\n", repeat=length):
                text = "".join(signs)
                wanted = [run.lower() for run in re.findall("[a-zA-Z0-9]+", text)]
                if words_of(text) != wanted:
                    self.assertEqual(words_of(text), wanted, text)

    def test_the_list_is_the_askers_own(self):
        text = "pay rent"
        first = words_of(text)
        first.append("more")
        first[0] = "other"
        self.assertEqual(words_of(text), ["pay", "rent"])
        empty = words_of("")
        empty.append("more")
        self.assertEqual(words_of(""), [])


class EachOnceTest(unittest.TestCase):

    def test_each_once_where_it_comes_first(self):
        self.assertEqual(each_once([]), [])
        self.assertEqual(each_once(["a"]), ["a"])
        self.assertEqual(each_once(["a", "a", "a"]), ["a"])
        self.assertEqual(each_once(["b", "a", "b", "c", "a"]), ["b", "a", "c"])
        self.assertEqual(each_once(["c", "b", "a"]), ["c", "b", "a"])

    def test_texts_that_differ_in_anything_are_others(self):
        row = ["a", "A", "a ", " a", "", "aa", "a\n", "1", "01"]
        self.assertEqual(each_once(row + row), row)

    def test_all_short_lists(self):
        for length in range(6):
            for texts in itertools.product(["a", "b", "", "10"], repeat=length):
                row = list(texts)
                wanted = [text for k, text in enumerate(row) if text not in row[:k]]
                if each_once(row) != wanted:
                    self.assertEqual(each_once(row), wanted, row)

    def test_the_list_handed_in_stays(self):
        row = ["b", "a", "b"]
        each_once(row)
        self.assertEqual(row, ["b", "a", "b"])

    def test_the_list_told_is_a_new_one(self):
        for row in ([], ["a", "b"], ["b", "a", "b"]):
            with self.subTest(row):
                before = list(row)
                told = each_once(row)
                wanted = list(told)
                told.append("more")
                self.assertEqual(row, before)
                row.append("later")
                self.assertEqual(told, wanted + ["more"])
                self.assertEqual(each_once(before), wanted)


if __name__ == "__main__":
    unittest.main()
