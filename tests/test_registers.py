import itertools
import random
import unittest

from helper import spoil
from mailroom.registers import Registers

KEY = ("ann1", "place")


def register_with(stamp, value):
    made = Registers()
    made.keep(KEY, stamp, value)
    return made


class KeepTest(unittest.TestCase):

    def test_nothing_at_first(self):
        made = Registers()
        self.assertIsNone(made.get(KEY))
        self.assertEqual(made.get(KEY, "inbox"), "inbox")
        self.assertEqual(made.keys_of("ann1"), [])

    def test_the_first_value_of_a_key(self):
        made = Registers()
        self.assertIs(made.keep(KEY, (5, "bob"), "home"), True)
        self.assertEqual(made.get(KEY), "home")
        self.assertEqual(made.get(KEY, "inbox"), "home")
        self.assertEqual(made.keys_of("ann1"), [KEY])

    def test_stamps_that_are_greater(self):
        for stamp in ((6, "bob"), (6, "a"), (100, "a"), (5, "bobb"), (5, "cy"), (5, "boc")):
            made = register_with((5, "bob"), "home")
            self.assertIs(made.keep(KEY, stamp, "work"), True, stamp)
            self.assertEqual(made.get(KEY), "work")
            self.assertIs(made.keep(KEY, (5, "bob"), "home"), False)
            self.assertEqual(made.get(KEY), "work")

    def test_stamps_that_are_not(self):
        for stamp in ((4, "bob"), (4, "z"), (1, "cy"), (5, "ann"), (5, "bo"), (5, "b"), (5, "boa")):
            made = register_with((5, "bob"), "home")
            self.assertIs(made.keep(KEY, stamp, "work"), False, stamp)
            self.assertEqual(made.get(KEY), "home")
            # The stamp there stays, too: one between the two is not kept either.
            self.assertIs(made.keep(KEY, (5, "bob"), "work"), False)
            self.assertEqual(made.get(KEY), "home")

    def test_the_same_stamp(self):
        made = register_with((5, "bob"), "home")
        for value in ("work", "home", None, True):
            self.assertIs(made.keep(KEY, (5, "bob"), value), False)
            self.assertEqual(made.get(KEY), "home")

    def test_clocks_rise_as_numbers(self):
        made = register_with((9, "bob"), "home")
        self.assertIs(made.keep(KEY, (10, "bob"), "work"), True)
        self.assertIs(made.keep(KEY, (9, "z"), "home"), False)
        self.assertEqual(made.get(KEY), "work")

    def test_values_of_each_kind(self):
        for value in (None, False, True, 0, 1, -5, "", "home", (), ("bob", "", "x", 3, ""), (None, False)):
            made = Registers()
            self.assertIs(made.keep(KEY, (1, "ann"), value), True)
            self.assertEqual(made.get(KEY, "other"), value)
            self.assertIs(type(made.get(KEY, "other")), type(value))
            self.assertIs(made.keep(KEY, (1, "ann"), "more"), False)
            self.assertEqual(made.get(KEY, "other"), value)
            self.assertIs(made.keep(KEY, (2, "ann"), "more"), True)
            self.assertEqual(made.get(KEY), "more")
            self.assertIs(made.keep(KEY, (3, "ann"), value), True)
            self.assertEqual(made.get(KEY, "other"), value)

    def test_any_order_ends_with_the_greatest(self):
        stamps = [(1, "ann"), (1, "bob"), (2, "ann"), (2, "cy"), (10, "a")]
        for order in itertools.permutations(stamps):
            made = Registers()
            for stamp in order:
                made.keep(KEY, stamp, stamp)
            self.assertEqual(made.get(KEY), (10, "a"))


class KeysTest(unittest.TestCase):

    KEYS = [("a",), ("a", "mark"), ("a", "mark", "b"), ("a", "mark", "a10"), ("a", "mark", "a2"), ("ab",), ("ab", "a"),
            ("b", "a"), ("b",), ("mark", "a"), ("a", "a"), ("a", ""), ("", "a"), ("",)]

    def made(self, keys):
        made = Registers()
        for k, key in enumerate(keys):
            self.assertIs(made.keep(key, (1, "ann"), k), True, key)
        return made

    def test_keys_by_their_first_text_rising(self):
        made = self.made(self.KEYS)
        self.assertEqual(made.keys_of("a"), [
            ("a",), ("a", ""), ("a", "a"), ("a", "mark"), ("a", "mark", "a10"), ("a", "mark", "a2"),
            ("a", "mark", "b"),
        ])
        self.assertEqual(made.keys_of("ab"), [("ab",), ("ab", "a")])
        self.assertEqual(made.keys_of("b"), [("b",), ("b", "a")])
        self.assertEqual(made.keys_of(""), [("",), ("", "a")])
        self.assertEqual(made.keys_of("mark"), [("mark", "a")])

    def test_a_first_text_that_no_key_has(self):
        made = self.made(self.KEYS)
        for first in ("c", "A", "a ", "a10", "none"):
            self.assertEqual(made.keys_of(first), [])

    def test_a_key_that_was_only_asked_for_is_not_there(self):
        made = self.made([("a", "b")])
        made.get(("a", "c"))
        made.get(("d",), "default")
        self.assertEqual(made.keys_of("a"), [("a", "b")])
        self.assertEqual(made.keys_of("d"), [])
        self.assertIsNone(made.get(("d",)))

    def test_each_key_has_a_value_of_its_own(self):
        made = self.made(self.KEYS)
        for k, key in enumerate(self.KEYS):
            self.assertEqual(made.get(key), k)
        self.assertIs(made.keep(("a", "mark", "b"), (2, "ann"), "new"), True)
        self.assertIs(made.keep(("a", "mark", "a2"), (1, "a"), "old"), False)
        for k, key in enumerate(self.KEYS):
            self.assertEqual(made.get(key), "new" if key == ("a", "mark", "b") else k)

    def test_a_key_whose_value_comes_again_stands_once(self):
        made = self.made([("a", "b")])
        made.keep(("a", "b"), (7, "ann"), 5)
        made.keep(("a", "b"), (6, "ann"), 5)
        self.assertEqual(made.keys_of("a"), [("a", "b")])

    def test_the_lists_told_are_the_askers_own(self):
        made = self.made([("a", "b"), ("a", "c")])
        told = made.keys_of("a")
        made.keep(("a", "d"), (1, "ann"), 1)
        self.assertEqual(told, [("a", "b"), ("a", "c")])
        spoil(told)
        spoil(made.keys_of("none"))
        self.assertEqual(made.keys_of("a"), [("a", "b"), ("a", "c"), ("a", "d")])
        self.assertEqual(made.keys_of("none"), [])

    def test_two_registers_have_nothing_in_common(self):
        one, other = self.made([("a",)]), Registers()
        self.assertIsNone(other.get(("a",)))
        other.keep(("a",), (9, "z"), "other")
        self.assertEqual(one.get(("a",)), 0)

    def test_much_by_chance(self):
        chance = random.Random(56)
        for again in range(30):
            made, plain = Registers(), {}
            for step in range(60):
                key = chance.choice(self.KEYS)
                stamp = (chance.randrange(1, 5), chance.choice(["ann", "annb", "bob", "z"]))
                value = chance.choice([None, False, True, 0, "home", ("a", 1)])
                wanted = key not in plain or stamp > plain[key][0]
                if wanted:
                    plain[key] = (stamp, value)
                self.assertIs(made.keep(key, stamp, value), wanted)
                for one in self.KEYS:
                    self.assertEqual(made.get(one, "none"), plain[one][1] if one in plain else "none")
                    self.assertEqual(made.keys_of(one[0]), sorted(two for two in plain if two[0] == one[0]))


if __name__ == "__main__":
    unittest.main()
