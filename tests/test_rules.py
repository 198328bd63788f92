import itertools
import random
import unittest

from helper import card_of, plainly_run, random_tree, state_of
from mailroom.conditions import condition_of
from mailroom.reading import read_rules
from mailroom.rules import Rules

STOP = ("stop",)


class RulesCase(unittest.TestCase):

    def assert_run(self, text, card, others, folder, marks, met):
        rules = read_rules(text)
        before = [state_of(one) for one in [card] + others]
        told = rules.outcome(card, others)
        self.assertIs(type(told), tuple)
        self.assertIs(type(told[1]), list)
        self.assertEqual(told, (folder, marks))
        told = rules.met(card, others)
        self.assertIs(type(told), list)
        self.assertEqual(told, met)
        self.assertEqual([state_of(one) for one in [card] + others], before)


class RunTest(RulesCase):

    def test_no_rules(self):
        self.assert_run("", card_of(), [], "inbox", [], [])
        self.assert_run("", card_of(folder="home", marks=["b", "a"]), [card_of()], "home", ["a", "b"], [])

    def test_each_act(self):
        card = card_of(folder="home", marks=["b", "d"])
        self.assert_run("if any then place work", card, [], "work", ["b", "d"], [0])
        self.assert_run("if any then mark c", card, [], "home", ["b", "c", "d"], [0])
        self.assert_run("if any then unmark b", card, [], "home", ["d"], [0])
        self.assert_run("if any then stop", card, [], "home", ["b", "d"], [0])

    def test_a_row_that_is_not_met_does_nothing(self):
        card = card_of(folder="home", marks=["b"])
        self.assert_run("if in work then place done, mark a, unmark b, stop", card, [], "home", ["b"], [])
        self.assert_run("if in work then stop\nif any then mark c", card, [], "home", ["b", "c"], [1])

    def test_acts_are_done_in_order(self):
        card = card_of()
        self.assert_run("if any then place a, place b", card, [], "b", [], [0])
        self.assert_run("if any then mark a, unmark a", card, [], "inbox", [], [0])
        self.assert_run("if any then unmark a, mark a", card, [], "inbox", ["a"], [0])
        self.assert_run("if any then mark b, mark a, unmark b, mark b", card, [], "inbox", ["a", "b"], [0])

    def test_marks_rise_each_once(self):
        text = "if any then mark seen, mark ann2, mark ann10, mark 0, mark ann2"
        self.assert_run(text, card_of(marks=["b"]), [], "inbox", ["0", "ann10", "ann2", "b", "seen"], [0])

    def test_a_mark_that_is_there_and_an_unmark_of_one_that_is_not(self):
        card = card_of(marks=["a", "b"])
        self.assert_run("if any then mark a", card, [], "inbox", ["a", "b"], [0])
        self.assert_run("if any then mark a, mark a, unmark a", card, [], "inbox", ["b"], [0])
        self.assert_run("if any then unmark c", card, [], "inbox", ["a", "b"], [0])
        self.assert_run("if any then unmark c, unmark a, unmark a", card, [], "inbox", ["b"], [0])
        self.assert_run("if any then unmark c", card_of(), [], "inbox", [], [0])

    def test_a_place_where_it_is_already(self):
        self.assert_run("if any then place inbox", card_of(), [], "inbox", [], [0])

    def test_later_rows_see_what_earlier_ones_did(self):
        self.assert_run("if in inbox then place home\nif in inbox then mark a\nif in home then mark b",
                        card_of(), [], "home", ["b"], [0, 2])
        self.assert_run("if any then mark a\nif marked a then place home", card_of(), [], "home", ["a"], [0, 1])
        self.assert_run("if marked a then unmark a\nif marked a then place home\nif not marked a then place work",
                        card_of(marks=["a"]), [], "work", [], [0, 2])
        self.assert_run("if in home then mark a\nif any then place home", card_of(), [], "home", [], [1])

    def test_a_row_sees_the_card_as_it_was_when_it_was_come_to(self):
        self.assert_run("if in inbox then place home, mark a, place work", card_of(), [], "work", ["a"], [0])

    def test_the_others_are_asked_as_they_are(self):
        others = [card_of(folder="home"), card_of(marks=["seen"])]
        text = "if thread in home then mark a\nif thread marked seen then mark b\nif thread in work then mark c"
        self.assert_run(text, card_of(folder="work"), others, "work", ["a", "b"], [0, 1])
        self.assert_run("if thread any then mark a", card_of(), [], "inbox", [], [])

    def test_the_others_see_the_card_as_it_is_then(self):
        text = "if thread thread in home then mark a\nif any then place home\nif thread thread in home then mark b"
        self.assert_run(text, card_of(), [card_of()], "home", ["b"], [1, 2])

    def test_words_of_the_letter(self):
        text = "if title rent then stop\nif word rent then mark a\nif from bob then mark b\nif answers then mark c"
        card = card_of(sender="bob", title="Pay", body="the RENT", answers="ann1")
        self.assert_run(text, card, [], "inbox", ["a", "b", "c"], [1, 2, 3])


class StopTest(RulesCase):

    def test_stop_in_the_middle_of_acts(self):
        self.assert_run("if any then mark a, stop, mark b", card_of(), [], "inbox", ["a"], [0])
        self.assert_run("if any then stop, place home, mark b", card_of(), [], "inbox", [], [0])
        self.assert_run("if any then place home, stop", card_of(), [], "home", [], [0])
        self.assert_run("if any then place home, stop, place work, stop, mark a", card_of(), [], "home", [], [0])

    def test_stop_in_the_middle_of_rows(self):
        self.assert_run("if any then mark a\nif any then mark b, stop\nif any then mark c", card_of(), [], "inbox",
                        ["a", "b"], [0, 1])
        self.assert_run("if any then stop, mark a\nif any then mark b", card_of(), [], "inbox", [], [0])
        self.assert_run("if in work then stop\nif any then mark b\nif marked b then stop\nif any then place home",
                        card_of(), [], "inbox", ["b"], [1, 2])

    def test_a_stop_that_is_not_met_stops_nothing(self):
        self.assert_run("if answers then stop\nif any then mark a", card_of(), [], "inbox", ["a"], [1])

    def test_stop_as_a_word_stops_nothing(self):
        self.assert_run("if any then place stop, mark stop\nif any then mark a", card_of(), [], "stop", ["a", "stop"],
                        [0, 1])


class MetTest(RulesCase):

    def test_the_places_are_those_among_the_rules(self):
        text = "\n\nif in home then stop\n \nif any then mark a\nif in home then mark b\nif marked a then stop"
        self.assert_run(text, card_of(), [], "inbox", ["a"], [1, 3])
        self.assert_run(text + "\nif any then stop", card_of(), [], "inbox", ["a"], [1, 3])

    def test_rows_that_change_nothing_are_met_too(self):
        self.assert_run("if any then place inbox\nif any then unmark a", card_of(), [], "inbox", [], [0, 1])

    def test_40_rows(self):
        text = "\n".join(f"if day {k} to 39 then mark m{k}" for k in range(40))
        self.assert_run(text, card_of(day=9), [], "inbox", sorted(f"m{k}" for k in range(10)), list(range(10)))


class AllOfThemTest(unittest.TestCase):

    def assert_plainly(self, rows, card, others):
        rules = Rules([(condition_of(tree), list(acts)) for tree, acts in rows])
        folder, marks, met = plainly_run(rows, card, others)
        self.assertEqual(rules.outcome(card, others), (folder, marks), rows)
        self.assertEqual(rules.met(card, others), met, rows)

    def test_all_rules_of_two_rows(self):
        conditions = [("any",), ("in", "home"), ("not", ("marked", "a")), ("thread", ("in", "home"))]
        acts = [("place", "home"), ("mark", "a"), ("unmark", "a"), STOP]
        rows = [(tree, pair) for tree in conditions for pair in itertools.product(acts, repeat=2)]
        cards = [card_of(), card_of(folder="home", marks=["a"])]
        for pair in itertools.product(rows, repeat=2):
            for card in cards:
                self.assert_plainly(list(pair), card, [cards[0]])

    def test_many_rules_by_chance(self):
        chance = random.Random(4)
        words = ("home", "in", "seen", "then", "a")
        cards = [
            card_of(sender="bob", title="Pay rent", folder="home", marks=["seen"]),
            card_of(title="any", body="rent and", answers="bob1"),
            card_of(sender="not", body="pay", day=7, folder="in", marks=["seen", "then"]),
        ]
        for again in range(1500):
            rows = []
            for row in range(chance.randrange(0, 9)):
                acts = []
                for act in range(chance.randrange(1, 4)):
                    kind = chance.choice(("place", "mark", "mark", "unmark"))
                    acts.append(STOP if chance.random() < 0.1 else (kind, chance.choice(words)))
                rows.append((random_tree(chance, 4), tuple(acts)))
            chance.shuffle(cards)
            self.assert_plainly(rows, cards[0], cards[1:chance.randrange(1, 4)])

    def test_rows_at_their_most(self):
        acts = [("mark", f"m{k}") for k in range(10000)]
        rules = Rules([(condition_of(("any",)), acts[k * 250:k * 250 + 250]) for k in range(40)])
        folder, marks = rules.outcome(card_of(), [])
        self.assertEqual(marks, sorted(f"m{k}" for k in range(10000)))
        self.assertEqual(rules.met(card_of(), []), list(range(40)))


class RowsTest(unittest.TestCase):

    def rules(self):
        return Rules([
            (condition_of(("both", ("any",), ("in", "home"))), [("place", "work"), ("mark", "a")]),
            (condition_of(("not", ("day", 3, 5))), [("unmark", "a"), STOP]),
        ])

    def test_rows(self):
        told = self.rules().rows()
        self.assertIs(type(told), list)
        self.assertEqual(told, [
            (("both", ("any",), ("in", "home")), (("place", "work"), ("mark", "a"))),
            (("not", ("day", 3, 5)), (("unmark", "a"), STOP)),
        ])
        for row in told:
            self.assertEqual([type(row), type(row[0]), type(row[1])], [tuple, tuple, tuple])

    def test_written(self):
        self.assertEqual(self.rules().written(), (
            "if (any and in home) then place work, mark a\nif not day 3 to 5 then unmark a, stop"))
        self.assertEqual(Rules([(condition_of(("any",)), [STOP])]).written(), "if any then stop")

    def test_no_rules(self):
        self.assertEqual(Rules([]).rows(), [])
        self.assertEqual(Rules([]).written(), "")


class OwnerTest(unittest.TestCase):

    def test_the_lists_handed_in_stay(self):
        first, second = [("mark", "a"), STOP], [("place", "home")]
        conditions = [condition_of(("any",)), condition_of(("answers",))]
        rows = [(conditions[0], first), (conditions[1], second)]
        rules = Rules(rows)
        rules.outcome(card_of(), [])
        rules.met(card_of(), [])
        rules.rows()
        rules.written()
        self.assertEqual(rows, [(conditions[0], first), (conditions[1], second)])
        self.assertEqual((first, second), ([("mark", "a"), STOP], [("place", "home")]))

    def test_the_lists_handed_in_may_be_changed_afterwards(self):
        acts = [("mark", "a")]
        rows = [(condition_of(("any",)), acts)]
        rules = Rules(rows)
        acts.append(("mark", "b"))
        acts[0] = STOP
        rows.append((condition_of(("any",)), [("place", "home")]))
        rows[0] = (condition_of(("answers",)), [])
        self.assertEqual(rules.rows(), [(("any",), (("mark", "a"),))])
        self.assertEqual(rules.outcome(card_of(), []), ("inbox", ["a"]))
        self.assertEqual(rules.met(card_of(), []), [0])
        self.assertEqual(rules.written(), "if any then mark a")

    def test_the_lists_told_are_the_askers_own(self):
        rules = read_rules("if any then mark a\nif in home then stop")
        for ask in (rules.rows, lambda: rules.met(card_of(), []), lambda: rules.outcome(card_of(marks=["b"]), [])[1]):
            wanted = list(ask())
            told = ask()
            told.append("more")
            told[0] = "other"
            self.assertEqual(ask(), wanted)

    def test_the_marks_told_are_not_the_cards(self):
        for text in ("", "if answers then stop", "if any then stop", "if any then mark b"):
            card = card_of(marks=["b"])
            told = read_rules(text).outcome(card, [])[1]
            self.assertEqual(told, ["b"])
            told.append("more")
            self.assertEqual(card.signs, ["b"])
            card.signs.append("later")
            self.assertEqual(told, ["b", "more"])

    def test_the_card_and_the_others_are_not_kept(self):
        rules = read_rules("if thread in home then mark a")
        others = [card_of(folder="home")]
        self.assertEqual(rules.outcome(card_of(), others), ("inbox", ["a"]))
        others.clear()
        self.assertEqual(rules.outcome(card_of(), others), ("inbox", []))
        self.assertEqual(rules.outcome(card_of(folder="work", marks=["b"]), []), ("work", ["b"]))
        self.assertEqual(rules.met(card_of(), []), [])

    def test_the_list_of_others_stays(self):
        others = [card_of(folder="home"), card_of(marks=["seen"]), card_of(day=9)]
        before = list(others)
        rules = read_rules("if thread not in home then mark a, place home\nif thread thread marked a then stop")
        rules.outcome(card_of(), others)
        rules.met(card_of(), others)
        self.assertEqual(others, before)


if __name__ == "__main__":
    unittest.main()
