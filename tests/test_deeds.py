import unittest

from helper import NO_TEXTS, LikeAll
from mailroom.deeds import is_deed, is_hand, is_stamped, stamp_of

PARTS = ("bob", "Pay the RENT", "by friday\n", 12, "ann1")
DEEDS = [
    ("put", "ann1", PARTS), ("put", "ann10", ("b", "", "", 0, "")), ("put", "a", ("b", "t" * 60, "b" * 400, 9999, "")),
    ("place", "ann1", "home"), ("place", "0", "inbox"), ("place", "place", "place"),
    ("mark", "ann1", "seen", True), ("mark", "ann1", "seen", False), ("mark", "a" * 20, "b" * 20, True),
    ("drop", "ann1"), ("drop", "drop"), ("drop", "9"),
]
NO_WORDS = ["", " ", "A", "Ann1", "ann 1", " ann1", "ann1 ", "ann1\n", "a\tb", "a-b", "a" * 21, "\n"] + NO_TEXTS
NO_HANDS = ["", " ", "A", "Ann", "aNn", "ann1", "1", "a b", " ann", "ann ", "ann\n", "\nann", "a\tb", "a-b", "a" * 9,
            "a" * 100] + NO_TEXTS
NO_COUNTS = [0, -1, -10 ** 30, True, False, None, "1", "", 1.0, b"1", [1], (1,), {}, object(), LikeAll()]
WRONG_PARTS = [
    [0] + NO_WORDS,
    ["t" * 61, "a\nb", "\n", "a\n"] + NO_TEXTS,
    ["b" * 401] + NO_TEXTS,
    [-1, 10000, True, False, None, "12", "", 1.5, [1], (1,)],
    ["A", "a b", "a" * 21, " ", "\n", "a\n"] + NO_TEXTS,
]


def with_thing(row, place, thing):
    return row[:place] + (thing,) + row[place + 1:]


class DeedTest(unittest.TestCase):

    def assert_deed(self, thing, wanted):
        self.assertIs(is_deed(thing), wanted, thing)
        self.assertIs(is_stamped((1, "ann", 1, thing)), wanted, thing)

    def test_each_form(self):
        for deed in DEEDS:
            self.assert_deed(deed, True)

    def test_each_form_with_an_unknown_first_thing(self):
        for deed in DEEDS:
            for first in ["", "Put", "PUT", "put ", " put", "puts", "unmark", "stop", "if", "letter"] + NO_TEXTS:
                self.assert_deed(with_thing(deed, 0, first), False)

    def test_forms_of_another_first_text(self):
        for deed in DEEDS:
            for first in {"put", "place", "mark", "drop"} - {deed[0]}:
                self.assert_deed(with_thing(deed, 0, first), False)

    def test_names_that_are_no_words(self):
        for deed in DEEDS:
            for name in NO_WORDS:
                self.assert_deed(with_thing(deed, 1, name), False)

    def test_w_that_is_no_word(self):
        for deed in DEEDS:
            if deed[0] in ("place", "mark"):
                for word in NO_WORDS:
                    self.assert_deed(with_thing(deed, 2, word), False)

    def test_each_part_that_is_no_letters(self):
        for place, wrong in enumerate(WRONG_PARTS):
            for thing in wrong:
                with self.subTest(place=place, thing=thing):
                    self.assert_deed(("put", "ann1", with_thing(PARTS, place, thing)), False)

    def test_parts_that_are_no_tuple_of_five(self):
        wrong = [PARTS[:4], PARTS + ("",), PARTS[1:], list(PARTS), (PARTS,), (), "bob", dict.fromkeys(PARTS), "abcde",
                 ["b", "", "", 0, ""], ("put", "ann1", PARTS)]
        for parts in wrong + NO_TEXTS:
            self.assert_deed(("put", "ann1", parts), False)

    def test_truths_that_are_none(self):
        for truth in [0, 1, None, "", "True", "true", 1.0, [], [True], (True,), {}, object(), LikeAll(), bool]:
            self.assert_deed(("mark", "ann1", "seen", truth), False)

    def test_tuples_too_short_and_too_long(self):
        for deed in DEEDS:
            for length in range(len(deed)):
                self.assert_deed(deed[:length], False)
            for more in (True, None, "a", "", PARTS, ()):
                self.assert_deed(deed + (more,), False)
        for deed in [("drop", "ann1", "home"), ("place", "ann1", "home", True), ("mark", "ann1", "seen"),
                     ("mark", "ann1", True), ("put", "ann1"), ("put", "ann1") + PARTS, ("put",) + PARTS]:
            self.assert_deed(deed, False)

    def test_a_list_in_the_place_of_a_tuple(self):
        for deed in DEEDS:
            self.assert_deed(list(deed), False)
            self.assert_deed((deed,), False)
            self.assert_deed([deed], False)

    def test_things_of_other_kinds(self):
        for thing in ["put", "drop ann1", "drop", ""] + NO_TEXTS:
            self.assert_deed(thing, False)
        self.assert_deed((LikeAll(), LikeAll(), LikeAll()), False)
        self.assert_deed((LikeAll(), "ann1", "home"), False)
        self.assert_deed((["drop"], "ann1"), False)

    def test_no_name_is_asked_to_fit_a_hand(self):
        for name in ("bob1", "ann2", "ann01", "1", "x"):
            self.assert_deed(("put", name, PARTS), True)
        self.assertIs(is_stamped((1, "bob", 7, ("put", "ann3", PARTS))), True)


class HandTest(unittest.TestCase):

    def test_hands(self):
        for hand in ("a", "z", "ann", "abcdefgh", "zzzzzzzz"):
            self.assertIs(is_hand(hand), True)

    def test_by_lengths(self):
        self.assertEqual([is_hand("a" * length) for length in range(11)], [False] + [True] * 8 + [False] * 2)

    def test_what_is_no_hand(self):
        for thing in NO_HANDS:
            self.assertIs(is_hand(thing), False)

    def test_each_sign_in_each_place(self):
        small = "abcdefghijklmnopqrstuvwxyz"
        for sign in [chr(k) for k in range(32, 127)] + ["\n", "\t"]:
            for hand in (sign, sign + "ab", "a" + sign + "b", "ab" + sign):
                self.assertIs(is_hand(hand), sign in small, hand)


class StampedTest(unittest.TestCase):

    def test_each_form_of_a_deed(self):
        for deed in DEEDS:
            for clock, hand, number in ((1, "ann", 1), (7, "a", 3), (3, "abcdefgh", 7), (10 ** 30, "z", 10 ** 20)):
                self.assertIs(is_stamped((clock, hand, number, deed)), True)

    def test_clocks_and_numbers(self):
        for count in NO_COUNTS:
            self.assertIs(is_stamped((count, "ann", 1, DEEDS[0])), False, count)
            self.assertIs(is_stamped((1, "ann", count, DEEDS[0])), False, count)

    def test_hands(self):
        for hand in NO_HANDS:
            self.assertIs(is_stamped((1, hand, 1, DEEDS[0])), False)

    def test_deeds_of_another_form(self):
        for deed in [("drop",), ("drop", "A"), ["drop", "a"], ("mark", "a", "b", 1), "drop"] + NO_TEXTS:
            self.assertIs(is_stamped((1, "ann", 1, deed)), False)

    def test_tuples_of_another_form(self):
        sound = (1, "ann", 1, ("drop", "ann1"))
        wrong = [sound[:3], sound[1:], sound + (1,), list(sound), (sound,), [sound], (1, "ann", 1, "drop", "ann1"),
                 ("ann", 1, 1, sound[3]), (1, 1, "ann", sound[3]), (sound[3], "ann", 1, 1), sound[3], "1 ann 1 drop"]
        for thing in wrong + NO_TEXTS:
            self.assertIs(is_stamped(thing), False)

    def test_the_stamp(self):
        self.assertEqual(stamp_of((7, "ann", 3, ("drop", "ann1"))), (7, "ann"))
        self.assertIs(type(stamp_of((7, "ann", 3, ("drop", "ann1")))), tuple)

    def test_which_stamp_is_greater(self):
        rising = [(1, "ann"), (1, "annb"), (1, "b"), (2, "a"), (2, "b"), (10, "a"), (10, "ann"), (11, "a")]
        told = [stamp_of((clock, hand, 99 - clock, ("drop", "x"))) for clock, hand in rising]
        self.assertEqual(told, rising)
        self.assertEqual(sorted(reversed(told)), rising)


if __name__ == "__main__":
    unittest.main()
