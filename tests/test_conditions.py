import itertools
import random
import unittest

from helper import LEAVES, card_of, few_calls, plainly_holds, random_tree, state_of, threads_within
from mailroom import conditions
from mailroom.conditions import Condition, condition_of
from mailroom.errors import NoRule

ANY = ("any",)
NEVER = ("not", ("any",))

# A tree of each form, and what is written of it.
FORMS = [
    (("any",), "any"),
    (("word", "rent"), "word rent"),
    (("title", "rent"), "title rent"),
    (("from", "ann"), "from ann"),
    (("day", 3, 12), "day 3 to 12"),
    (("in", "home"), "in home"),
    (("marked", "seen"), "marked seen"),
    (("answers",), "answers"),
    (("not", ("any",)), "not any"),
    (("both", ("any",), ("answers",)), "(any and answers)"),
    (("either", ("any",), ("answers",)), "(any or answers)"),
    (("thread", ("any",)), "thread any"),
]


class ConditionCase(unittest.TestCase):

    def assert_holds(self, wanted, tree, card, others=()):
        self.assertIs(condition_of(tree).holds(card, list(others)), wanted, tree)


class FormsTest(ConditionCase):

    def test_any(self):
        self.assert_holds(True, ANY, card_of())
        self.assert_holds(True, ANY, card_of(title="rent", day=0, folder="home", marks=["seen"]), [card_of()])

    def test_word(self):
        card = card_of(sender="ann", title="Pay the RENT", body="by a-1\nsoon", answers="bob1", folder="home",
                       marks=["seen"])
        for word in ("pay", "the", "rent", "by", "a", "1", "soon"):
            self.assert_holds(True, ("word", word), card)
        for word in ("ann", "bob1", "home", "seen", "ren", "rents", "a1", "5", "inbox", "title", ""):
            self.assert_holds(False, ("word", word), card)

    def test_title(self):
        card = card_of(sender="ann", title="Pay the RENT", body="by a-1 pay soon", answers="bob1", folder="home")
        for word in ("pay", "the", "rent"):
            self.assert_holds(True, ("title", word), card)
        for word in ("by", "a", "soon", "ann", "bob1", "home", "ren", "paythe", "title"):
            self.assert_holds(False, ("title", word), card)
        self.assert_holds(False, ("title", "rent"), card_of(body="rent"))

    def test_words_with_great_letters_hold_of_nothing(self):
        self.assert_holds(False, ("word", "RENT"), card_of(title="RENT"))
        self.assert_holds(False, ("title", "RENT"), card_of(title="RENT"))

    def test_from(self):
        self.assert_holds(True, ("from", "ann"), card_of(sender="ann"))
        for word in ("an", "ann1", "bob", "rent", "inbox", "ann2"):
            self.assert_holds(False, ("from", word), card_of(sender="ann", title="rent bob", answers="ann2"))

    def test_days(self):
        for first, last in ((3, 7), (0, 9999), (0, 0), (9999, 9999), (5, 5), (0, 5), (9998, 9999), (7, 3), (9999, 0)):
            for day in (0, 1, 2, 3, 4, 5, 6, 7, 8, 9997, 9998, 9999):
                with self.subTest(first=first, last=last, day=day):
                    self.assert_holds(first <= day and day <= last, ("day", first, last), card_of(day=day))

    def test_days_at_their_edges(self):
        for day, wanted in ((9, False), (10, True), (11, True), (19, True), (20, True), (21, False)):
            self.assert_holds(wanted, ("day", 10, 20), card_of(day=day))
        for day, wanted in ((9, False), (10, True), (11, False)):
            self.assert_holds(wanted, ("day", 10, 10), card_of(day=day))
        for day in (9, 10, 15, 20, 21):
            self.assert_holds(False, ("day", 20, 10), card_of(day=day))
        for day in (10, 11):
            self.assert_holds(False, ("day", 11, 10), card_of(day=day))

    def test_in(self):
        self.assert_holds(True, ("in", "home"), card_of(folder="home", marks=["seen"]))
        for word in ("inbox", "hom", "homes", "seen"):
            self.assert_holds(False, ("in", word), card_of(folder="home", marks=["seen"]))
        self.assert_holds(True, ("in", "inbox"), card_of())

    def test_marked(self):
        card = card_of(title="rent", folder="home", marks=["b", "seen", "a"])
        for word in ("a", "b", "seen"):
            self.assert_holds(True, ("marked", word), card)
        for word in ("c", "see", "home", "rent", "ab"):
            self.assert_holds(False, ("marked", word), card)
        self.assert_holds(False, ("marked", "seen"), card_of())

    def test_answers(self):
        self.assert_holds(False, ("answers",), card_of())
        self.assert_holds(False, ("answers",), card_of(), [card_of(answers="bob1")])
        self.assert_holds(True, ("answers",), card_of(answers="bob1"))
        self.assert_holds(True, ("answers",), card_of(answers="nowhere"), [card_of()])

    def test_not(self):
        self.assert_holds(False, ("not", ANY), card_of())
        self.assert_holds(True, ("not", ("not", ANY)), card_of())
        self.assert_holds(True, ("not", ("in", "home")), card_of())
        self.assert_holds(False, ("not", ("in", "inbox")), card_of())

    def test_both_and_either(self):
        for one, other in itertools.product((ANY, NEVER), repeat=2):
            self.assert_holds(one == ANY and other == ANY, ("both", one, other), card_of())
            self.assert_holds(one == ANY or other == ANY, ("either", one, other), card_of())


class ThreadTest(ConditionCase):

    def test_without_others(self):
        self.assert_holds(False, ("thread", ANY), card_of())
        self.assert_holds(False, ("thread", NEVER), card_of())
        self.assert_holds(True, ("not", ("thread", ANY)), card_of())
        self.assert_holds(False, ("thread", ("not", ANY)), card_of())
        self.assert_holds(False, ("thread", ("in", "home")), card_of(folder="home"))

    def test_one_other(self):
        self.assert_holds(True, ("thread", ANY), card_of(), [card_of()])
        self.assert_holds(True, ("thread", ("in", "home")), card_of(), [card_of(folder="home")])
        self.assert_holds(False, ("thread", ("in", "home")), card_of(folder="home"), [card_of()])

    def test_several_others_of_which_one_is_such(self):
        for count in range(1, 5):
            for place in range(count):
                others = [card_of(folder="home" if k == place else "work") for k in range(count)]
                for box in ("home", "work"):
                    self.assert_holds(True, ("thread", ("in", "home")), card_of(folder=box), others)
                self.assert_holds(False, ("thread", ("in", "inbox")), card_of(), others)

    def test_several_others_of_which_none_is_such(self):
        others = [card_of(folder="work"), card_of(folder="done"), card_of(folder="work")]
        self.assert_holds(False, ("thread", ("in", "home")), card_of(folder="home"), others)
        self.assert_holds(True, ("not", ("thread", ("in", "home"))), card_of(folder="home"), others)

    def test_one_other_must_be_all_that_is_asked(self):
        both = ("thread", ("both", ("in", "home"), ("marked", "seen")))
        apart = [card_of(folder="home"), card_of(marks=["seen"])]
        self.assert_holds(False, both, card_of(), apart)
        self.assert_holds(True, ("both", ("thread", ("in", "home")), ("thread", ("marked", "seen"))), card_of(), apart)
        self.assert_holds(True, both, card_of(), apart + [card_of(folder="home", marks=["seen"])])

    def test_not_of_thread_and_thread_of_not(self):
        home, work = card_of(folder="home"), card_of(folder="work")
        for others, no_such, one_not in (
            ([], True, False), ([home], False, False), ([work], True, True), ([home, work], False, True),
            ([work, home], False, True), ([home, home], False, False), ([work, work], True, True),
        ):
            self.assert_holds(no_such, ("not", ("thread", ("in", "home"))), home, others)
            self.assert_holds(one_not, ("thread", ("not", ("in", "home"))), home, others)
            self.assert_holds(not one_not, ("not", ("thread", ("not", ("in", "home")))), home, others)

    def test_thread_within_thread_comes_back_to_the_first_card(self):
        twice = ("thread", ("thread", ("in", "home")))
        self.assert_holds(False, twice, card_of(folder="home"))
        self.assert_holds(True, twice, card_of(folder="home"), [card_of()])
        self.assert_holds(True, twice, card_of(folder="home"), [card_of(), card_of()])

    def test_thread_within_thread_leaves_out_the_one_that_is_asked(self):
        twice = ("thread", ("thread", ("in", "home")))
        self.assert_holds(False, twice, card_of(), [card_of(folder="home")])
        self.assert_holds(True, twice, card_of(), [card_of(folder="home"), card_of()])
        self.assert_holds(True, twice, card_of(), [card_of(), card_of(folder="home")])
        self.assert_holds(True, twice, card_of(), [card_of(folder="home"), card_of(folder="home")])

    def test_what_the_other_is_asked_stands_beside_what_its_others_are_asked(self):
        tree = ("thread", ("both", ("in", "home"), ("thread", ("marked", "seen"))))
        self.assert_holds(False, tree, card_of(), [card_of(folder="home", marks=["seen"])])
        self.assert_holds(True, tree, card_of(marks=["seen"]), [card_of(folder="home")])
        self.assert_holds(True, tree, card_of(), [card_of(folder="home"), card_of(marks=["seen"])])
        self.assert_holds(False, tree, card_of(), [card_of(), card_of(marks=["seen"])])
        self.assert_holds(False, tree, card_of(folder="home"), [card_of(marks=["seen"])])

    def test_the_same_card_twice_among_the_others(self):
        card = card_of(folder="home")
        self.assert_holds(True, ("thread", ("thread", ("in", "home"))), card_of(), [card, card])
        self.assert_holds(True, ("thread", ("thread", ("in", "home"))), card, [card])


class AllOfThemTest(ConditionCase):

    CARDS = [
        card_of(sender="bob", title="Pay rent", day=5, folder="home", marks=["seen"]),
        card_of(sender="ann", title="any", body="rent and", day=7, answers="bob1", marks=["then"]),
        card_of(sender="not", title="", body="pay", day=9999, folder="in", marks=["seen", "then"]),
        card_of(sender="bob", body="Rent", day=2),
    ]

    def test_each_leaf_as_the_document_says(self):
        for tree in LEAVES:
            for card in self.CARDS:
                self.assert_holds(plainly_holds(tree, card, []), tree, card)
                self.assert_holds(plainly_holds(tree, card, []), tree, card, self.CARDS)

    def test_all_small_trees_in_all_small_threads(self):
        leaves = [("in", "home"), ("marked", "seen")]
        trees = list(leaves)
        for again in range(3):
            wider = [(kind, tree) for kind in ("not", "thread") for tree in trees]
            wider += [(kind, one, other) for kind in ("both", "either") for one in trees for other in leaves]
            trees = leaves + [tree for tree in wider if threads_within(tree) <= 2]
        kinds = [("home", ()), ("home", ("seen",)), ("work", ()), ("work", ("seen",))]
        cards = [card_of(folder=folder, marks=marks) for folder, marks in kinds]
        threads = [list(row) for count in range(1, 4) for row in itertools.product(cards, repeat=count)]
        for tree in trees:
            condition = condition_of(tree)
            for row in threads:
                told = condition.holds(row[0], row[1:])
                if told is not plainly_holds(tree, row[0], row[1:]):
                    self.fail((tree, [state_of(card) for card in row]))

    def test_many_trees_by_chance(self):
        chance = random.Random(22)
        for again in range(3000):
            tree = random_tree(chance, 7)
            cards = [chance.choice(self.CARDS) for k in range(chance.randrange(1, 6))]
            self.assert_holds(plainly_holds(tree, cards[0], cards[1:]), tree, cards[0], cards[1:])

    def test_threads_of_200_letters(self):
        others = [card_of(day=day) for day in range(1, 200)]
        self.assert_holds(True, ("thread", ("day", 199, 199)), card_of(day=0), others)
        self.assert_holds(False, ("thread", ("day", 0, 0)), card_of(day=0), others)
        self.assert_holds(True, ("thread", ("thread", ("day", 0, 0))), card_of(day=0), others)
        self.assert_holds(False, ("thread", ("thread", ("word", "rent"))), card_of(), others)
        self.assert_holds(True, ("thread", ("not", ("thread", ("day", 7, 7)))), card_of(day=0), others)
        self.assert_holds(False, ("thread", ("not", ("thread", ("day", 7, 8)))), card_of(day=0), others)


class TreeTest(unittest.TestCase):

    def test_the_tree_told_is_the_tree_given(self):
        for tree in [tree for tree, text in FORMS] + LEAVES + [("day", 0, 0), ("day", 9, 3), ("day", 9999, 9999)]:
            with self.subTest(tree):
                told = condition_of(tree).tree()
                self.assertIs(type(told), tuple)
                self.assertEqual(told, tree)

    def test_trees_within_trees(self):
        chance = random.Random(1)
        for again in range(500):
            tree = random_tree(chance, 8)
            self.assertEqual(condition_of(tree).tree(), tree)

    def test_each_form_has_a_class_of_its_own_under_condition(self):
        classes = [condition_of(tree).__class__ for tree, text in FORMS]
        for made in classes:
            self.assertTrue(issubclass(made, Condition))
            self.assertIsNot(made, Condition)
            self.assertEqual(made.__module__, conditions.__name__)
        self.assertEqual(len(set(classes)), 12)

    def test_a_tree_of_no_form(self):
        for tree in (("and", ("any",), ("any",)), ("Any",), ("before", 5), ("",)):
            with self.assertRaises(NoRule):
                condition_of(tree)

    def test_it_is_a_new_condition_each_time(self):
        for tree, text in FORMS:
            self.assertIsNot(condition_of(tree), condition_of(tree))


class WrittenTest(unittest.TestCase):

    def assert_written(self, tree, text):
        self.assertEqual(condition_of(tree).written(), text)

    def test_each_form(self):
        for tree, text in FORMS:
            with self.subTest(tree):
                self.assert_written(tree, text)

    def test_days_without_noughts_ahead(self):
        self.assert_written(("day", 0, 0), "day 0 to 0")
        self.assert_written(("day", 7, 7), "day 7 to 7")
        self.assert_written(("day", 0, 9999), "day 0 to 9999")
        self.assert_written(("day", 20, 3), "day 20 to 3")

    def test_brackets_about_every_and_and_or(self):
        one, other, third = ("in", "a"), ("in", "b"), ("in", "c")
        self.assert_written(("both", ("both", one, other), third), "((in a and in b) and in c)")
        self.assert_written(("both", one, ("both", other, third)), "(in a and (in b and in c))")
        self.assert_written(("either", ("both", one, other), third), "((in a and in b) or in c)")
        self.assert_written(("both", one, ("either", other, third)), "(in a and (in b or in c))")
        self.assert_written(("either", ("either", one, other), third), "((in a or in b) or in c)")

    def test_not_and_thread_ahead_of_a_bracket_and_of_one_another(self):
        both = ("both", ("in", "a"), ("in", "b"))
        self.assert_written(("not", both), "not (in a and in b)")
        self.assert_written(("thread", both), "thread (in a and in b)")
        self.assert_written(("not", ("not", ("any",))), "not not any")
        self.assert_written(("not", ("thread", ("any",))), "not thread any")
        self.assert_written(("thread", ("not", ("any",))), "thread not any")
        self.assert_written(("thread", ("thread", both)), "thread thread (in a and in b)")
        self.assert_written(("not", ("thread", ("not", both))), "not thread not (in a and in b)")
        self.assert_written(("both", ("not", ("any",)), ("thread", ("answers",))), "(not any and thread answers)")
        self.assert_written(("either", ("thread", both), ("not", both)),
                            "(thread (in a and in b) or not (in a and in b))")

    def test_words_of_the_language(self):
        self.assert_written(("both", ("word", "and"), ("in", "not")), "(word and and in not)")
        self.assert_written(("not", ("marked", "not")), "not marked not")


class OwnerTest(unittest.TestCase):

    def test_the_card_and_the_others_stay(self):
        card = card_of(title="Rent", folder="home", marks=["b", "a"])
        others = [card_of(folder="work", marks=["seen"]), card_of(day=7, answers="bob1")]
        before = (state_of(card), list(others), [state_of(other) for other in others])
        for tree in [tree for tree, text in FORMS] + [("thread", ("not", ("thread", ("in", "work"))))]:
            condition_of(tree).holds(card, others)
            self.assertEqual((state_of(card), list(others), [state_of(other) for other in others]), before)

    def test_nothing_is_kept_of_the_card_and_the_others(self):
        condition = condition_of(("either", ("in", "home"), ("thread", ("in", "home"))))
        others = [card_of(folder="home")]
        self.assertIs(condition.holds(card_of(), others), True)
        others.clear()
        self.assertIs(condition.holds(card_of(), others), False)
        self.assertIs(condition.holds(card_of(folder="home"), []), True)
        self.assertIs(condition.holds(card_of(), [card_of()]), False)


class DeepTest(unittest.TestCase):

    def deep_trees(self, deep):
        for kind in ("not", "left", "right", "thread"):
            tree = ("in", "home")
            for again in range(deep - 1):
                if kind == "left":
                    tree = ("both", tree, ("any",))
                elif kind == "right":
                    tree = ("either", ("answers",), tree)
                else:
                    tree = ("not", tree)
            if kind == "thread":
                tree = ("thread", ("thread", tree[1][1]))
            yield tree

    def test_trees_30_deep_and_somewhat_deeper_with_few_calls(self):
        for deep in (29, 30, 31, 40):
            for tree in self.deep_trees(deep):
                card, others = card_of(folder="home"), [card_of(), card_of(folder="home")]
                wanted = plainly_holds(tree, card, others)
                with few_calls():
                    condition = condition_of(tree)
                    self.assertIs(condition.holds(card, others), wanted)
                    self.assertEqual(condition.tree(), tree)
                    self.assertIn("in home", condition.written())


if __name__ == "__main__":
    unittest.main()
