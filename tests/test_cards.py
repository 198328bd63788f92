import itertools
import unittest

from mailroom.cards import Card
from mailroom.letters import Letter

PARTS = ("ann", "Rent", "pay", 12, "bob1")


def letter():
    return Letter(*PARTS)


class CardCase(unittest.TestCase):

    def assert_card(self, card, box, signs):
        self.assertIsInstance(card, Card)
        self.assertIsInstance(card.letter, Letter)
        self.assertEqual(card.letter.parts(), PARTS)
        self.assertEqual(card.box, box)
        self.assertIsInstance(card.signs, list)
        self.assertEqual(card.signs, signs)


class FieldsTest(CardCase):

    def test_folder_and_marks_left_out(self):
        self.assert_card(Card(letter()), "inbox", [])

    def test_none_tells_no_marks(self):
        self.assert_card(Card(letter(), "home", None), "home", [])
        self.assert_card(Card(letter(), "home", []), "home", [])
        self.assert_card(Card(letter(), "home", ()), "home", [])

    def test_marks_in_any_turn(self):
        for marks in itertools.permutations(["ann10", "ann2", "seen", "0"]):
            with self.subTest(marks):
                self.assert_card(Card(letter(), "home", list(marks)), "home", ["0", "ann10", "ann2", "seen"])
                self.assert_card(Card(letter(), "home", marks), "home", ["0", "ann10", "ann2", "seen"])

    def test_marks_that_are_told_several_times(self):
        for length in range(5):
            for marks in itertools.product(["b", "a", "ab"], repeat=length):
                wanted = [mark for mark in ("a", "ab", "b") if mark in marks]
                self.assert_card(Card(letter(), "home", list(marks)), "home", wanted)
                self.assert_card(Card(letter(), "home", marks), "home", wanted)

    def test_the_list_handed_in_stays(self):
        marks = ["b", "a", "b"]
        Card(letter(), "home", marks)
        self.assertEqual(marks, ["b", "a", "b"])

    def test_the_list_handed_in_may_be_changed_afterwards(self):
        for marks in (["b", "a", "b"], ["a", "b"]):
            card = Card(letter(), "home", marks)
            marks.append("c")
            marks[0] = "d"
            self.assert_card(card, "home", ["a", "b"])

    def test_cards_do_not_share_their_marks(self):
        first = Card(letter())
        second = Card(letter())
        first.signs.append("a")
        self.assert_card(second, "inbox", [])
        self.assert_card(Card(letter()), "inbox", [])

    def test_marks_of_one_card_handed_to_another(self):
        first = Card(letter(), "home", ["a"])
        second = Card(letter(), "home", first.signs)
        second.signs.append("b")
        self.assert_card(first, "home", ["a"])

    def test_the_letter_handed_in_is_not_kept(self):
        handed = letter()
        card = Card(handed)
        handed.title = "other"
        self.assert_card(card, "inbox", [])


class NewCardsTest(CardCase):

    def setUp(self):
        self.card = Card(letter(), "home", ["b", "d"])

    def tearDown(self):
        self.assert_card(self.card, "home", ["b", "d"])

    def test_placed(self):
        self.assert_card(self.card.placed("work"), "work", ["b", "d"])
        self.assert_card(self.card.placed("home"), "home", ["b", "d"])
        self.assert_card(self.card.placed("inbox"), "inbox", ["b", "d"])

    def test_signed(self):
        self.assert_card(self.card.signed("a"), "home", ["a", "b", "d"])
        self.assert_card(self.card.signed("c"), "home", ["b", "c", "d"])
        self.assert_card(self.card.signed("e"), "home", ["b", "d", "e"])

    def test_signed_with_a_mark_that_it_has(self):
        self.assert_card(self.card.signed("b"), "home", ["b", "d"])
        self.assert_card(self.card.signed("d"), "home", ["b", "d"])

    def test_unsigned(self):
        self.assert_card(self.card.unsigned("b"), "home", ["d"])
        self.assert_card(self.card.unsigned("d"), "home", ["b"])
        self.assert_card(self.card.unsigned("b").unsigned("d"), "home", [])

    def test_unsigned_of_a_mark_that_it_has_not(self):
        self.assert_card(self.card.unsigned("a"), "home", ["b", "d"])
        self.assert_card(self.card.unsigned("bd"), "home", ["b", "d"])
        self.assert_card(Card(letter()).unsigned("a"), "inbox", [])

    def test_each_is_a_new_card_with_marks_of_its_own(self):
        for other in (
            self.card.placed("home"), self.card.placed("work"), self.card.signed("b"),
            self.card.signed("c"), self.card.unsigned("a"), self.card.unsigned("b"),
        ):
            self.assertIsNot(other, self.card)
            other.signs.append("z")
            other.box = "elsewhere"
            self.assert_card(self.card, "home", ["b", "d"])

    def test_one_behind_the_other(self):
        card = self.card.placed("work").signed("c").unsigned("b").signed("a").placed("done")
        self.assert_card(card, "done", ["a", "c", "d"])


if __name__ == "__main__":
    unittest.main()
