import random
import unittest

from helper import NO_NAMES, assert_refused, spoil
from mailroom.errors import NoName
from mailroom.index import Index
from mailroom.letters import Letter


def index_of(entries):
    made = Index()
    for name, words in entries.items():
        made.add(name, words)
    return made


class IndexCase(unittest.TestCase):

    def assert_plainly(self, made, entries, more=()):
        """What point 33 says, word by word, of a dict from names to lists of words."""
        there = sorted({word for words in entries.values() for word in words})
        self.assertEqual(made.all_words(), there)
        for word in there + list(more):
            self.assertEqual(made.having(word), sorted(name for name in entries if word in entries[name]), word)
        for name in entries:
            self.assertEqual(made.words(name), sorted(set(entries[name])))


class WordsTest(IndexCase):

    def test_nothing_at_first(self):
        made = Index()
        self.assertEqual(made.all_words(), [])
        self.assertEqual(made.having("rent"), [])

    def test_one_name(self):
        made = Index()
        self.assertIsNone(made.add("ann1", ["pay", "the", "rent"]))
        self.assertEqual(made.words("ann1"), ["pay", "rent", "the"])
        self.assertEqual(made.all_words(), ["pay", "rent", "the"])
        self.assertEqual(made.having("rent"), ["ann1"])
        self.assertEqual(made.having("ren"), [])
        self.assertEqual(made.having("ann1"), [])

    def test_a_name_without_words(self):
        made = index_of({"ann1": [], "ann2": ["a"]})
        self.assertEqual(made.words("ann1"), [])
        self.assertEqual(made.all_words(), ["a"])
        self.assert_plainly(made, {"ann1": [], "ann2": ["a"]}, [""])
        self.assertIsNone(made.take_out("ann1"))
        self.assert_plainly(made, {"ann2": ["a"]}, [""])

    def test_a_word_several_times(self):
        made = index_of({"ann1": ["b", "a", "b", "b", "a"]})
        self.assertEqual(made.words("ann1"), ["a", "b"])
        self.assertEqual(made.having("b"), ["ann1"])
        made.take_out("ann1")
        self.assert_plainly(made, {}, ["a", "b"])

    def test_several_names_with_one_word(self):
        entries = {"ann2": ["x", "a"], "bob1": ["b", "x"], "ann10": ["x"], "ann1": ["c"]}
        made = index_of(entries)
        self.assertEqual(made.having("x"), ["ann10", "ann2", "bob1"])
        self.assert_plainly(made, entries, ["y"])

    def test_a_word_that_is_the_beginning_of_another(self):
        entries = {"n1": ["a", "abc"], "n2": ["ab"], "n3": ["abcd", "a"], "n4": ["bc"]}
        made = index_of(entries)
        self.assertEqual(made.having("ab"), ["n2"])
        self.assertEqual(made.having("a"), ["n1", "n3"])
        self.assert_plainly(made, entries, ["", "b", "abcde"])

    def test_words_and_names_rise_as_texts(self):
        made = index_of({"ann2": ["b10", "b2", "9", "b", "a"], "ann10": ["b2"], "9": ["b2"]})
        self.assertEqual(made.words("ann2"), ["9", "a", "b", "b10", "b2"])
        self.assertEqual(made.all_words(), ["9", "a", "b", "b10", "b2"])
        self.assertEqual(made.having("b2"), ["9", "ann10", "ann2"])

    def test_a_name_that_is_a_word_too(self):
        entries = {"a": ["b"], "b": ["a"], "c": ["c"]}
        self.assert_plainly(index_of(entries), entries)

    def test_a_run_of_more_than_20_signs(self):
        made = index_of({"ann1": ["a" * 30, "a" * 20]})
        self.assertEqual(made.having("a" * 30), ["ann1"])
        self.assertEqual(made.words("ann1"), ["a" * 20, "a" * 30])

    def test_the_words_of_a_letter(self):
        made = index_of({"ann1": Letter("ann", "Pay the RENT", "the a-1", 3).words()})
        self.assertEqual(made.words("ann1"), ["1", "a", "pay", "rent", "the"])


class ComeAndGoTest(IndexCase):

    def test_each_coming_and_going(self):
        made, entries = Index(), {}
        steps = [("n1", ["a", "b"]), ("n2", ["b", "c"]), ("n3", []), ("n1", None), ("n4", ["a"]), ("n2", None),
                 ("n1", ["c"]), ("n4", None), ("n3", None), ("n1", None)]
        for name, words in steps:
            if words is None:
                self.assertIsNone(made.take_out(name))
                entries.pop(name)
            else:
                self.assertIsNone(made.add(name, words))
                entries[name] = words
            self.assert_plainly(made, entries, ["a", "b", "c", "d"])
        self.assertEqual(made.all_words(), [])

    def test_one_that_comes_again_with_other_words(self):
        made = index_of({"n1": ["a", "b"], "n2": ["b"]})
        made.take_out("n1")
        made.add("n1", ["c", "b"])
        self.assert_plainly(made, {"n1": ["c", "b"], "n2": ["b"]}, ["a"])

    def test_much_coming_and_going_by_chance(self):
        chance = random.Random(33)
        names = ["ann1", "ann2", "ann10", "bob1", "c"]
        pool = ["a", "ab", "abc", "b", "10", "2", "ann1"]
        for again in range(30):
            made, entries = Index(), {}
            for step in range(50):
                name = chance.choice(names)
                words = chance.choices(pool, k=chance.randrange(5))
                if name in entries and chance.random() < 0.3:
                    assert_refused(self, NoName, made.add, name, words)
                elif name in entries:
                    made.take_out(name)
                    entries.pop(name)
                elif chance.random() < 0.2:
                    assert_refused(self, NoName, made.take_out, name)
                    assert_refused(self, NoName, made.words, name)
                else:
                    made.add(name, words)
                    entries[name] = words
                self.assert_plainly(made, entries, pool)

    def test_200_names_of_many_words(self):
        entries = {f"n{k}": [f"w{k * step % 307}" for step in range(1, 231)] for k in range(200)}
        made = index_of(entries)
        for name in sorted(entries)[::7]:
            made.take_out(name)
            entries.pop(name)
        self.assert_plainly(made, entries)
        for name in entries:
            made.take_out(name)
        self.assert_plainly(made, {}, ["w1", "w2"])


class RefusedTest(IndexCase):

    ENTRIES = {"a": ["x", "y"], "b": ["y"], "c": []}

    def assert_refused(self, made, ask, *given):
        assert_refused(self, NoName, ask, *given)
        self.assert_plainly(made, self.ENTRIES, ["z", "w"])

    def test_add_of_a_name_that_is_there(self):
        made = index_of(self.ENTRIES)
        for name in self.ENTRIES:
            for words in ([], ["z"], ["x"], list(self.ENTRIES[name])):
                self.assert_refused(made, made.add, name, words)

    def test_names_that_are_not_there(self):
        made = index_of(self.ENTRIES)
        for name in ["x", "d", "", "A", "a ", "aa"] + NO_NAMES:
            for ask in (made.take_out, made.words):
                self.assert_refused(made, ask, name)
        for ask in (Index().take_out, Index().words):
            self.assert_refused(made, ask, "a")

    def test_what_is_no_text_does_not_come_to_be_there(self):
        made = index_of(self.ENTRIES)
        for name in NO_NAMES:
            self.assert_refused(made, made.add, name, ["w"])

    def test_a_name_that_was_taken_out(self):
        made = index_of({**self.ENTRIES, "e": ["z", "x"]})
        made.take_out("e")
        for ask in (made.take_out, made.words):
            self.assert_refused(made, ask, "e")

    def test_what_makes_good_what_was_refused(self):
        made = index_of(self.ENTRIES)
        self.assert_refused(made, made.add, "a", ["z"])
        made.take_out("a")
        made.add("a", ["z"])
        self.assert_plainly(made, {**self.ENTRIES, "a": ["z"]}, ["x", "w"])
        assert_refused(self, NoName, made.words, "d")
        made.add("d", ["w"])
        self.assert_plainly(made, {**self.ENTRIES, "a": ["z"], "d": ["w"]}, ["x"])

    def test_words_that_no_name_has(self):
        made = index_of(self.ENTRIES)
        for word in ["z", "", "X", "a"] + NO_NAMES:
            self.assertEqual(made.having(word), [])
        self.assert_plainly(made, self.ENTRIES)


class OwnerTest(IndexCase):

    def test_the_list_of_words_handed_in_may_be_changed(self):
        words = ["b", "a"]
        made = Index()
        made.add("n1", words)
        self.assertEqual(words, ["b", "a"])
        words.append("c")
        words[0] = "d"
        self.assert_plainly(made, {"n1": ["a", "b"]}, ["c", "d"])
        words.clear()
        made.take_out("n1")
        self.assert_plainly(made, {}, ["a", "b", "c", "d"])

    def test_one_list_handed_in_twice(self):
        words = ["a"]
        made = Index()
        made.add("n1", words)
        made.add("n2", words)
        made.take_out("n1")
        self.assert_plainly(made, {"n2": ["a"]})

    def test_the_lists_told_are_the_askers_own(self):
        entries = {"n1": ["a", "b"], "n2": ["b"]}
        made = index_of(entries)
        for ask in (made.all_words, lambda: made.having("b"), lambda: made.words("n1"), lambda: made.having("z")):
            spoil(ask())
            self.assert_plainly(made, entries, ["z", "more", "spoilt"])

    def test_the_lists_told_stay_as_they_were(self):
        made = index_of({"n1": ["a", "b"], "n2": ["b"]})
        told = (made.all_words(), made.having("b"), made.words("n1"))
        made.add("n3", ["b", "c"])
        made.take_out("n1")
        self.assertEqual(told, (["a", "b"], ["n1", "n2"], ["a", "b"]))

    def test_two_indexes_have_nothing_in_common(self):
        one, other = index_of({"n1": ["a"]}), index_of({"n1": ["b"]})
        one.take_out("n1")
        self.assert_plainly(one, {}, ["a", "b"])
        self.assert_plainly(other, {"n1": ["b"]}, ["a"])


if __name__ == "__main__":
    unittest.main()
