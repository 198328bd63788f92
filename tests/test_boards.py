import itertools
import random
import unittest

from helper import NO_NAMES, assert_refused, assert_shows, spoil, state_of
from mailroom.boards import Board
from mailroom.cards import Card
from mailroom.errors import NoName
from mailroom.folders import Folders
from mailroom.index import Index
from mailroom.letters import Letter
from mailroom.threads import Threads


def put(clock, name, answers="", title="Pay", body="the rent", day=3, number=1):
    return (clock, name.rstrip("0123456789"), number, ("put", name, ("bob", title, body, day, answers)))


def deed(clock, hand, *parts):
    return (clock, hand, 1, parts)


def board_of(deeds):
    board = Board()
    for stamped in deeds:
        board.show(stamped)
    return board


class BoardCase(unittest.TestCase):

    def assert_any_order(self, deeds):
        """Boards that are shown these deeds in any order tell the same, what they say plainly; told on the way, too."""
        for order in itertools.permutations(deeds):
            board = Board()
            for count, stamped in enumerate(order, start=1):
                self.assertIsNone(board.show(stamped))
                if count < len(deeds):
                    board.names()
            assert_shows(self, board, deeds)

    def assert_card(self, deeds, name, folder, marks):
        for order in itertools.permutations(deeds):
            card = board_of(order).card(name)
            self.assertEqual((card.box, card.signs), (folder, marks), order)
        self.assert_any_order(deeds)

    def assert_gone(self, deeds, name):
        for order in itertools.permutations(deeds):
            board = board_of(order)
            self.assertNotIn(name, board.names())
            self.assertNotIn(name, board.hung.names())
            self.assertEqual(board.listed.having("rent"), [])
            self.assertEqual(board.listed.all_words(), [])
            self.assertEqual(board.boxed.folders(), [])
            self.assertEqual(board.hung.threads(), [])
        self.assert_any_order(deeds)


class ShownTest(BoardCase):

    def test_nothing_at_first(self):
        board = Board()
        assert_shows(self, board, [])
        self.assertIsInstance(board.hung, Threads)
        self.assertIsInstance(board.listed, Index)
        self.assertIsInstance(board.boxed, Folders)

    def test_a_put(self):
        board = board_of([put(1, "ann1", "bob7")])
        self.assertEqual(board.names(), ["ann1"])
        self.assertEqual(board.letter_at("ann1").parts(), ("bob", "Pay", "the rent", 3, "bob7"))
        self.assertEqual(state_of(board.card("ann1")), (("bob", "Pay", "the rent", 3, "bob7"), "inbox", []))
        self.assertEqual(board.hung.answers_to("bob7"), ["ann1"])
        self.assertEqual(board.listed.words("ann1"), ["pay", "rent", "the"])
        self.assertEqual(board.boxed.counts("inbox"), (1, 1))
        self.assertIsInstance(board.letter_at("ann1"), Letter)
        self.assertIsInstance(board.card("ann1"), Card)

    def test_names_rise_as_texts(self):
        deeds = [put(k, f"ann{k}", number=k) for k in range(1, 12)] + [put(1, "an1")]
        board = board_of(deeds)
        self.assertEqual(board.names()[:4], ["an1", "ann1", "ann10", "ann11"])
        assert_shows(self, board, deeds)

    def test_a_place(self):
        deeds = [put(1, "ann1"), deed(2, "ann", "place", "ann1", "home")]
        self.assert_card(deeds, "ann1", "home", [])

    def test_the_place_with_the_greatest_clock(self):
        deeds = [put(1, "ann1"), deed(2, "bob", "place", "ann1", "home"), deed(9, "ann", "place", "ann1", "work"),
                 deed(10, "ann", "place", "ann1", "done"), deed(3, "cy", "place", "ann1", "other")]
        self.assert_card(deeds, "ann1", "done", [])

    def test_places_by_hands_with_one_clock(self):
        deeds = [put(1, "ann1"), deed(5, "ann", "place", "ann1", "z"), deed(5, "bob", "place", "ann1", "a"),
                 deed(5, "annb", "place", "ann1", "m")]
        self.assert_card(deeds, "ann1", "a", [])

    def test_a_place_back_into_the_inbox(self):
        deeds = [put(1, "ann1"), deed(5, "ann", "place", "ann1", "home"), deed(6, "ann", "place", "ann1", "inbox")]
        self.assert_card(deeds, "ann1", "inbox", [])

    def test_deeds_ahead_of_the_put_by_their_stamps(self):
        deeds = [put(50, "ann1"), deed(5, "bob", "place", "ann1", "home"), deed(6, "bob", "mark", "ann1", "seen", True)]
        self.assert_card(deeds, "ann1", "home", ["seen"])

    def test_marks_of_several_words(self):
        deeds = [put(1, "ann1"), deed(2, "ann", "mark", "ann1", "b", True), deed(3, "ann", "mark", "ann1", "a10", True),
                 deed(4, "bob", "mark", "ann1", "a2", True), deed(5, "bob", "mark", "ann1", "none", False)]
        self.assert_card(deeds, "ann1", "inbox", ["a10", "a2", "b"])

    def test_marks_of_one_word_by_several_hands(self):
        for truths in itertools.product([True, False], repeat=4):
            stamps = [(4, "ann"), (4, "bob"), (5, "ann"), (4, "annb")]
            marks = [deed(clock, hand, "mark", "ann1", "seen", on) for (clock, hand), on in zip(stamps, truths)]
            self.assert_card([put(1, "ann1")] + marks, "ann1", "inbox", ["seen"] if truths[2] else [])

    def test_marks_of_one_word_by_hands_with_one_clock(self):
        for truths in itertools.product([True, False], repeat=3):
            marks = [deed(7, hand, "mark", "ann1", "seen", on) for hand, on in zip(["bob", "ann", "b"], truths)]
            self.assert_card([put(1, "ann1")] + marks, "ann1", "inbox", ["seen"] if truths[0] else [])

    def test_places_and_marks_do_not_touch_one_another(self):
        deeds = [put(1, "ann1"), deed(2, "ann", "place", "ann1", "seen"), deed(3, "ann", "mark", "ann1", "place", True),
                 deed(4, "ann", "mark", "ann1", "drop", True), deed(5, "bob", "mark", "ann1", "put", False)]
        self.assert_card(deeds, "ann1", "seen", ["drop", "place"])

    def test_deeds_of_other_names(self):
        deeds = [put(1, "ann1"), put(1, "bob1"), deed(2, "ann", "place", "bob1", "home"),
                 deed(3, "ann", "mark", "ann1", "bob1", True), deed(4, "ann", "drop", "ann11")]
        self.assert_card(deeds, "bob1", "home", [])
        self.assert_card(deeds, "ann1", "inbox", ["bob1"])

    def test_deeds_of_names_that_never_come(self):
        self.assert_gone([deed(1, "ann", "place", "x", "home"), deed(2, "ann", "mark", "x", "a", True),
                          deed(3, "ann", "drop", "y")], "x")

    def test_a_deed_shown_again(self):
        deeds = [put(1, "ann1"), deed(2, "ann", "place", "ann1", "home"), deed(3, "ann", "mark", "ann1", "a", True)]
        for order in itertools.permutations(deeds * 2, 4):
            assert_shows(self, board_of(list(order) + deeds), deeds)


    def test_two_puts_of_one_name(self):
        """No ledger has such; a board tells the greater, whichever comes first."""
        deeds = [put(1, "ann1", title="First"), put(2, "ann1", "bob1", title="Second", body=""),
                 deed(3, "ann", "mark", "ann1", "seen", True)]
        for order in itertools.permutations(deeds):
            board = board_of(order)
            self.assertEqual(state_of(board.card("ann1")), (("bob", "Second", "", 3, "bob1"), "inbox", ["seen"]))
            self.assertEqual(board.listed.all_words(), ["second"])
            self.assertEqual(board.hung.answers_to("bob1"), ["ann1"])


class DropTest(BoardCase):

    def test_a_drop_with_any_stamp(self):
        for clock, hand in ((1, "a"), (5, "ann"), (5, "bob"), (5, "a"), (90, "z")):
            self.assert_gone([put(5, "ann1"), deed(clock, hand, "drop", "ann1")], "ann1")

    def test_older_and_newer_deeds_of_its_name(self):
        self.assert_gone([put(5, "ann1"), deed(6, "ann", "drop", "ann1"), deed(2, "bob", "place", "ann1", "home"),
                          deed(9, "bob", "place", "ann1", "work"), deed(9, "cy", "mark", "ann1", "seen", True)], "ann1")

    def test_several_drops(self):
        self.assert_gone([put(5, "ann1"), deed(6, "ann", "drop", "ann1"), deed(2, "bob", "drop", "ann1"),
                          deed(6, "cy", "drop", "ann1")], "ann1")

    def test_a_drop_of_one_of_a_thread(self):
        deeds = [put(1, "ann1"), put(2, "ann2", "ann1"), put(3, "ann3", "ann2"), deed(4, "bob", "drop", "ann2")]
        self.assert_any_order(deeds)
        self.assertEqual(board_of(deeds).hung.threads(), [["ann1"], ["ann3"]])

    def test_a_drop_of_one_that_others_answer(self):
        deeds = [put(1, "ann1"), put(2, "ann2", "ann1"), put(3, "ann3", "ann1"), deed(4, "bob", "drop", "ann1")]
        self.assert_any_order(deeds)
        self.assertEqual(board_of(deeds).hung.threads(), [["ann2", "ann3"]])

    def test_words_of_one_that_was_dropped(self):
        deeds = [put(1, "ann1", title="Rent", body="due"), put(2, "bob1", title="rent"), deed(3, "cy", "drop", "ann1")]
        self.assert_any_order(deeds)
        board = board_of(deeds)
        self.assertEqual(board.listed.having("rent"), ["bob1"])
        self.assertEqual(board.listed.having("due"), [])

    def test_counts_behind_a_drop(self):
        deeds = [put(1, "ann1"), put(2, "bob1"), deed(2, "ann", "place", "ann1", "home"),
                 deed(3, "bob", "mark", "bob1", "seen", True), deed(4, "cy", "drop", "ann1")]
        self.assert_any_order(deeds)
        self.assertEqual(board_of(deeds).boxed.folders(), [("inbox", 1, 0)])


class ChanceTest(BoardCase):

    def random_deeds(self, chance, count):
        """Deeds by four hands, each with rising clocks, with puts of names hand and k."""
        hands = ["ann", "annb", "bob", "cy"]
        names = [f"{hand}{k}" for hand in hands for k in (1, 2, 3)]
        clocks, puts, numbers, deeds = dict.fromkeys(hands, 0), dict.fromkeys(hands, 0), dict.fromkeys(hands, 0), []
        for step in range(count):
            hand, name = chance.choice(hands), chance.choice(names)
            clocks[hand] += chance.randrange(1, 4)
            numbers[hand] += 1
            kind = chance.choice(["put", "put", "place", "place", "mark", "mark", "mark", "drop"])
            if kind == "put":
                puts[hand] += 1
                parts = (chance.choice(hands), chance.choice(["Pay", "rent", ""]), chance.choice(["a b", "the Rent"]),
                         chance.randrange(9), chance.choice(names + ["", ""]))
                one = ("put", f"{hand}{puts[hand]}", parts)
            elif kind == "place":
                one = ("place", name, chance.choice(["inbox", "home", "work"]))
            elif kind == "mark":
                one = ("mark", name, chance.choice(["seen", "a"]), chance.random() < 0.6)
            else:
                one = ("drop", name)
            deeds.append((clocks[hand], hand, numbers[hand], one))
        return deeds

    def test_any_deeds_in_any_order(self):
        chance = random.Random(61)
        for again in range(60):
            deeds = self.random_deeds(chance, 40)
            for order in range(4):
                chance.shuffle(deeds)
                board = Board()
                for count, stamped in enumerate(deeds, start=1):
                    board.show(stamped)
                    if order == 0:
                        assert_shows(self, board, deeds[:count])
                assert_shows(self, board, deeds)


class OwnerTest(BoardCase):

    DEEDS = [put(1, "ann1", "bob1"), put(2, "ann2", "ann1"), deed(3, "ann", "mark", "ann1", "seen", True),
             deed(4, "ann", "place", "ann1", "home")]

    def test_letters_and_cards_told_may_be_changed(self):
        board = board_of(self.DEEDS)
        for letter in (board.letter_at("ann1"), board.card("ann1").letter):
            letter.words().append("more")
            letter.sender, letter.title, letter.body, letter.day, letter.answers = "x", "y", "z", 9, ""
            assert_shows(self, board, self.DEEDS)
        card = board.card("ann1")
        card.signs.append("more")
        card.box = "nowhere"
        card.letter = board.letter_at("ann2")
        assert_shows(self, board, self.DEEDS)
        board.show(deed(9, "cy", "place", "ann1", "work"))
        assert_shows(self, board, self.DEEDS + [deed(9, "cy", "place", "ann1", "work")])

    def test_what_is_told_stays_as_it_was(self):
        board = board_of(self.DEEDS)
        names, letter, card = board.names(), board.letter_at("ann1"), board.card("ann1")
        for stamped in (deed(9, "cy", "place", "ann1", "work"), deed(9, "cy", "mark", "ann1", "seen", False),
                        deed(10, "cy", "drop", "ann1")):
            board.show(stamped)
        self.assertEqual(names, ["ann1", "ann2"])
        self.assertEqual(letter.parts(), ("bob", "Pay", "the rent", 3, "bob1"))
        self.assertEqual(state_of(card), (letter.parts(), "home", ["seen"]))

    def test_lists_of_names_may_be_changed(self):
        board = board_of(self.DEEDS)
        spoil(board.names())
        assert_shows(self, board, self.DEEDS)

    def test_names_that_are_not_there(self):
        board = board_of(self.DEEDS + [put(9, "cy1"), deed(9, "cy", "drop", "cy1"), deed(8, "cy", "drop", "dan1")])
        for name in ["bob1", "cy1", "dan1", "ann", "", "Ann1", "home"] + NO_NAMES:
            for ask in (board.letter_at, board.card):
                assert_refused(self, NoName, ask, name)

    def test_two_boards_have_nothing_in_common(self):
        one, other = board_of(self.DEEDS), Board()
        assert_shows(self, other, [])
        other.show(deed(1, "ann", "drop", "ann1"))
        assert_shows(self, one, self.DEEDS)


if __name__ == "__main__":
    unittest.main()
