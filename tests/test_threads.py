import itertools
import random
import unittest

from helper import NO_NAMES, PlainThreads, assert_refused, few_calls
from mailroom.errors import NoName
from mailroom.threads import Threads


def threads_of(links):
    made = Threads()
    for name, answers in links.items():
        made.add(name, answers)
    return made


class ThreadsCase(unittest.TestCase):

    def assert_plainly(self, made, links, more=()):
        plain = PlainThreads(links)
        self.assertEqual(made.names(), sorted(links))
        self.assertEqual(made.threads(), plain.threads(), links)
        for name in links:
            self.assertEqual(made.thread(name), plain.thread(name), links)
            self.assertEqual(made.depth(name), plain.depth(name), links)
        for name in list(links) + list(more):
            self.assertEqual(made.answers_to(name), plain.answers_to(name), links)


class NamesTest(ThreadsCase):

    def test_nothing_at_first(self):
        made = Threads()
        self.assertEqual(made.names(), [])
        self.assertEqual(made.threads(), [])
        self.assertEqual(made.answers_to("ann1"), [])

    def test_one_that_answers_none(self):
        made = Threads()
        self.assertIsNone(made.add("ann1"))
        self.assertEqual(made.names(), ["ann1"])
        self.assertEqual(made.thread("ann1"), ["ann1"])
        self.assertEqual(made.threads(), [["ann1"]])
        self.assertEqual(made.depth("ann1"), 0)
        self.assertEqual(made.answers_to("ann1"), [])

    def test_two_that_answer_none(self):
        made = Threads()
        made.add("ann1")
        made.add("ann2")
        made.add("ann3", "")
        self.assert_plainly(made, {"ann1": "", "ann2": "", "ann3": ""})
        self.assertEqual(made.threads(), [["ann1"], ["ann2"], ["ann3"]])

    def test_names_rise_as_texts(self):
        made = threads_of({"b": "", "ann2": "", "ann10": "", "0": "ann2", "ann1": "b", "ann": "ann2", "z" * 20: ""})
        self.assertEqual(made.names(), ["0", "ann", "ann1", "ann10", "ann2", "b", "z" * 20])
        self.assertEqual(made.thread("ann2"), ["0", "ann", "ann2"])
        self.assertEqual(made.threads(), [["0", "ann", "ann2"], ["ann1", "b"], ["ann10"], ["z" * 20]])
        self.assertEqual(made.answers_to("ann2"), ["0", "ann"])

    def test_those_that_answer_none_do_not_hang_together(self):
        made = threads_of({"a": "", "b": "", "c": ""})
        self.assertEqual(made.threads(), [["a"], ["b"], ["c"]])
        self.assertEqual(made.answers_to(""), [])

    def test_two_rooms_share_nothing(self):
        one, other = Threads(), Threads()
        one.add("a", "b")
        self.assertEqual(other.names(), [])
        self.assertEqual(other.answers_to("b"), [])


class HangTest(ThreadsCase):

    def test_one_that_answers_one_that_is_there(self):
        for links in ({"a": "", "b": "a"}, {"b": "a", "a": ""}):
            made = threads_of(links)
            self.assertEqual(made.thread("a"), ["a", "b"])
            self.assertEqual(made.thread("b"), ["a", "b"])
            self.assertEqual((made.depth("a"), made.depth("b")), (0, 1))
            self.assertEqual(made.answers_to("a"), ["b"])
            self.assertEqual(made.answers_to("b"), [])

    def test_one_that_answers_one_that_is_not_there(self):
        made = threads_of({"a": "x"})
        self.assertEqual(made.names(), ["a"])
        self.assertEqual(made.threads(), [["a"]])
        self.assertEqual(made.depth("a"), 0)
        self.assertEqual(made.answers_to("x"), ["a"])

    def test_two_that_answer_one_that_is_not_there(self):
        made = threads_of({"b": "x", "c": "y", "a": "x", "d": "a"})
        self.assertEqual(made.threads(), [["a", "b", "d"], ["c"]])
        self.assertEqual(made.thread("d"), ["a", "b", "d"])
        self.assertEqual([made.depth(name) for name in "abcd"], [0, 0, 0, 1])
        self.assertEqual(made.answers_to("x"), ["a", "b"])

    def test_one_that_answers_itself(self):
        made = threads_of({"a": "a", "b": ""})
        self.assertEqual(made.threads(), [["a"], ["b"]])
        self.assertEqual(made.depth("a"), 0)
        self.assertEqual(made.answers_to("a"), ["a"])
        made.add("c", "a")
        self.assertEqual(made.threads(), [["a", "c"], ["b"]])
        self.assertEqual(made.depth("c"), 1)
        self.assertEqual(made.answers_to("a"), ["a", "c"])

    def test_two_that_answer_one_another(self):
        made = threads_of({"a": "b", "b": "a", "c": "b", "d": ""})
        self.assertEqual(made.threads(), [["a", "b", "c"], ["d"]])
        self.assertEqual([made.depth(name) for name in "abcd"], [1, 1, 2, 0])

    def test_rings(self):
        for count in (3, 4, 7, 50):
            names = [f"ann{k}" for k in range(count)]
            made = threads_of({name: names[k - 1] for k, name in enumerate(names)})
            self.assertEqual(made.threads(), [sorted(names)])
            for name in names:
                self.assertEqual(made.depth(name), count - 1)
            made.add("below", names[0])
            self.assertEqual(made.depth("below"), count)
            made.take_out(names[0])
            self.assertEqual(made.depth(names[1]), 0)
            self.assertEqual(made.depth(names[-1]), count - 2)
            self.assertEqual(made.threads(), [sorted(names[1:] + ["below"])])

    def test_all_threads_of_up_to_four_names(self):
        for count in range(5):
            names = "abcd"[:count]
            for row in itertools.product(["gone", "", "x", *names], repeat=count):
                links = {name: answers for name, answers in zip(names, row) if answers != "gone"}
                self.assert_plainly(threads_of(links), links, ["x", "a", "d", "y", ""][:4])

    def test_any_order_of_adding(self):
        links = {"a": "b", "b": "c", "c": "", "d": "x", "e": "x", "f": "e"}
        for order in itertools.permutations(links):
            made = threads_of({name: links[name] for name in order})
            self.assert_plainly(made, links, ["x", "y"])


class ComeAndGoTest(ThreadsCase):

    def test_one_that_comes_goes_and_comes_again(self):
        made = threads_of({"a": "", "b": "a"})
        self.assertIsNone(made.take_out("b"))
        self.assert_plainly(made, {"a": ""}, ["b"])
        made.add("b")
        self.assert_plainly(made, {"a": "", "b": ""})
        made.take_out("b")
        made.add("b", "x")
        self.assert_plainly(made, {"a": "", "b": "x"}, ["x"])
        made.take_out("a")
        made.add("a", "b")
        self.assert_plainly(made, {"a": "b", "b": "x"}, ["x"])

    def test_one_taken_out_parts_others(self):
        made = threads_of({"a": "", "b": "a", "c": "b"})
        self.assertEqual(made.threads(), [["a", "b", "c"]])
        made.take_out("b")
        self.assertEqual(made.threads(), [["a"], ["c"]])
        self.assertEqual(made.depth("c"), 0)
        self.assertEqual(made.answers_to("b"), ["c"])
        self.assertEqual(made.answers_to("a"), [])

    def test_one_taken_out_is_still_answered(self):
        made = threads_of({"a": "", "b": "a", "c": "a"})
        made.take_out("a")
        self.assertEqual(made.threads(), [["b", "c"]])
        self.assertEqual(made.answers_to("a"), ["b", "c"])
        self.assertEqual((made.depth("b"), made.depth("c")), (0, 0))

    def test_one_that_comes_joins_others(self):
        made = threads_of({"a": "", "c": "b"})
        self.assertEqual(made.threads(), [["a"], ["c"]])
        made.add("b", "a")
        self.assertEqual(made.threads(), [["a", "b", "c"]])
        self.assertEqual(made.depth("c"), 2)

    def test_one_of_two_that_answer_one_that_is_not_there(self):
        made = threads_of({"a": "x", "b": "x", "c": "b"})
        made.take_out("b")
        self.assertEqual(made.threads(), [["a"], ["c"]])
        made.add("x", "c")
        self.assertEqual(made.threads(), [["a", "c", "x"]])
        self.assertEqual(made.depth("a"), 2)

    def test_all_taken_out(self):
        made = threads_of({"a": "b", "b": "a", "c": "c"})
        for name in "bca":
            made.take_out(name)
        self.assert_plainly(made, {}, ["a", "b", "c"])

    def test_much_coming_and_going_by_chance(self):
        chance = random.Random(31)
        names = ["ann1", "ann2", "ann10", "bob1", "bob2", "cy", "d", "e"]
        for again in range(20):
            made, links = Threads(), {}
            for step in range(60):
                name = chance.choice(names)
                if name in links and chance.random() < 0.7:
                    made.take_out(name)
                    links.pop(name)
                elif name in links:
                    with self.assertRaises(NoName):
                        made.add(name, chance.choice(names))
                elif chance.random() < 0.2:
                    with self.assertRaises(NoName):
                        made.take_out(name)
                else:
                    links[name] = chance.choice(names + ["", "", "x"])
                    made.add(name, links[name])
                self.assert_plainly(made, links, ["x"])


class LongTest(ThreadsCase):

    def names(self):
        return [f"n{k}" for k in range(200)]

    def assert_chain(self, made, names):
        with few_calls(60):
            self.assertEqual(made.threads(), [sorted(names)])
            for k, name in enumerate(names):
                self.assertEqual(made.depth(name), k)
                self.assertEqual(made.thread(name), sorted(names))
                self.assertEqual(made.answers_to(name), names[k + 1:k + 2])

    def test_200_in_a_row_in_any_order_of_adding(self):
        names = self.names()
        links = {name: names[k - 1] if k else "" for k, name in enumerate(names)}
        orders = [names, names[::-1], sorted(names), names[::2] + names[1::2]]
        for seed in range(3):
            order = list(names)
            random.Random(seed).shuffle(order)
            orders.append(order)
        for order in orders:
            with few_calls(60):
                made = threads_of({name: links[name] for name in order})
            self.assert_chain(made, names)

    def test_a_long_row_that_is_parted_and_joined(self):
        names = self.names()
        made = threads_of({name: names[k - 1] if k else "" for k, name in enumerate(names)})
        made.take_out(names[100])
        self.assertEqual(made.threads(), sorted([sorted(names[:100]), sorted(names[101:])]))
        self.assertEqual(made.depth(names[199]), 98)
        made.add(names[100], names[99])
        self.assert_chain(made, names)

    def test_a_ring_of_200(self):
        names = self.names()
        made = threads_of({name: names[k - 1] for k, name in enumerate(names)})
        self.assertEqual(made.threads(), [sorted(names)])
        self.assertEqual({made.depth(name) for name in names}, {199})

    def test_200_that_answer_one(self):
        names = self.names()
        made = threads_of({name: "x" for name in names})
        self.assertEqual(made.threads(), [sorted(names)])
        self.assertEqual(made.answers_to("x"), sorted(names))
        self.assertEqual({made.depth(name) for name in names}, {0})


class RefusedTest(ThreadsCase):

    LINKS = {"a": "", "b": "a", "c": "x", "d": "d"}

    def assert_refused(self, made, ask, *given):
        assert_refused(self, NoName, ask, *given)
        self.assert_plainly(made, self.LINKS, ["x", "y", "e"])

    def test_add_of_a_name_that_is_there(self):
        made = threads_of(self.LINKS)
        for name in self.LINKS:
            for answers in ("", "a", "b", "x", "y", name):
                self.assert_refused(made, made.add, name, answers)
            self.assert_refused(made, made.add, name)

    def test_names_that_are_not_there(self):
        made = threads_of(self.LINKS)
        for name in ["x", "y", "", "A", "a ", "aa"] + NO_NAMES:
            for ask in (made.take_out, made.thread, made.depth):
                self.assert_refused(made, ask, name)
        for ask in (Threads().take_out, Threads().thread, Threads().depth):
            self.assert_refused(made, ask, "a")

    def test_what_is_no_text_does_not_come_to_be_there(self):
        made = threads_of(self.LINKS)
        for name in NO_NAMES:
            self.assert_refused(made, made.add, name)

    def test_a_name_that_was_taken_out(self):
        made = threads_of({**self.LINKS, "e": "b"})
        made.take_out("e")
        for ask in (made.take_out, made.thread, made.depth):
            self.assert_refused(made, ask, "e")

    def test_a_name_that_is_only_answered(self):
        made = threads_of(self.LINKS)
        for ask in (made.take_out, made.thread, made.depth):
            self.assert_refused(made, ask, "x")
        made.add("x", "b")
        self.assert_plainly(made, {**self.LINKS, "x": "b"}, ["y"])
        self.assertEqual(made.thread("x"), ["a", "b", "c", "x"])

    def test_what_makes_good_what_was_refused(self):
        made = threads_of(self.LINKS)
        self.assert_refused(made, made.add, "b", "d")
        made.take_out("b")
        made.add("b", "d")
        self.assert_plainly(made, {**self.LINKS, "b": "d"}, ["x"])
        assert_refused(self, NoName, made.take_out, "e")
        made.add("e", "c")
        made.take_out("e")
        self.assert_plainly(made, {**self.LINKS, "b": "d"}, ["x", "e"])

    def test_answers_to_names_that_are_not_there(self):
        made = threads_of(self.LINKS)
        self.assertEqual(made.answers_to("x"), ["c"])
        for name in ["y", ""] + NO_NAMES:
            self.assertEqual(made.answers_to(name), [])
        self.assert_plainly(made, self.LINKS, ["x", "y"])


class OwnerTest(ThreadsCase):

    def test_the_lists_told_are_the_askers_own(self):
        links = {"a": "", "b": "a", "c": "a", "d": "x"}
        made = threads_of(links)
        for ask in (made.names, made.threads, lambda: made.thread("b"), lambda: made.answers_to("a"),
                    lambda: made.threads()[0], lambda: made.answers_to("nowhere")):
            told = ask()
            told.append("more")
            told[0] = "other"
            self.assert_plainly(made, links, ["x", "nowhere"])

    def test_the_lists_told_stay_as_they_were(self):
        made = threads_of({"a": "", "b": "a"})
        told = (made.names(), made.thread("a"), made.threads(), made.answers_to("a"))
        made.add("c", "a")
        made.take_out("b")
        self.assertEqual(told, (["a", "b"], ["a", "b"], [["a", "b"]], ["b"]))


if __name__ == "__main__":
    unittest.main()
