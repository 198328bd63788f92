import itertools
import random
import unittest

from helper import NO_NAMES, assert_refused, spoil
from mailroom.errors import NoName
from mailroom.folders import Folders


def folders_of(there):
    """Of a dict from names to tuples (folder, marks)."""
    made = Folders()
    for name, (folder, marks) in there.items():
        made.add(name, folder, marks)
    return made


class FoldersCase(unittest.TestCase):

    def assert_plainly(self, made, there, folders=("inbox", "home", "nowhere"), words=("seen", "a", "b", "none")):
        """What points 41 and 42 say, word by word, of a dict from names to tuples (folder, marks)."""
        inside = {}
        for name, (folder, marks) in there.items():
            self.assertEqual(made.folder(name), folder)
            self.assertEqual(made.marks(name), sorted(set(marks)))
            inside.setdefault(folder, []).append(name)
        told = []
        for folder in sorted(inside):
            unseen = [name for name in inside[folder] if "seen" not in there[name][1]]
            told.append((folder, len(inside[folder]), len(unseen)))
        self.assertEqual(made.folders(), told)
        for folder, whole, unseen in told + [(folder, 0, 0) for folder in folders if folder not in inside]:
            names = inside.get(folder, [])
            self.assertEqual(made.counts(folder), (whole, unseen))
            self.assertEqual(made.names(folder), sorted(names))
            for word in words:
                self.assertEqual(made.marked(folder, word), len([name for name in names if word in there[name][1]]))


class AddTest(FoldersCase):

    def test_nothing_at_first(self):
        made = Folders()
        self.assertEqual(made.folders(), [])
        self.assertEqual(made.counts("inbox"), (0, 0))
        self.assertEqual(made.names("inbox"), [])
        self.assertEqual(made.marked("inbox", "seen"), 0)

    def test_without_folder_and_marks(self):
        made = Folders()
        self.assertIsNone(made.add("ann1"))
        self.assertEqual(made.folder("ann1"), "inbox")
        self.assertEqual(made.marks("ann1"), [])
        self.assertEqual(made.counts("inbox"), (1, 1))
        self.assertEqual(made.folders(), [("inbox", 1, 1)])
        self.assertEqual(made.names("inbox"), ["ann1"])

    def test_with_a_folder(self):
        made = Folders()
        made.add("ann1", "home")
        self.assert_plainly(made, {"ann1": ("home", [])})
        self.assertEqual(made.counts("inbox"), (0, 0))

    def test_with_marks(self):
        for marks in (["b", "a"], ("b", "a"), ["a", "b", "a"], ("b", "b", "a"), ["a", "b"]):
            made = Folders()
            made.add("ann1", "home", marks)
            self.assertEqual(made.marks("ann1"), ["a", "b"])
            self.assert_plainly(made, {"ann1": ("home", ["a", "b"])})
        for marks in (None, [], ()):
            made = Folders()
            made.add("ann1", "home", marks)
            self.assertEqual(made.marks("ann1"), [])
            self.assert_plainly(made, {"ann1": ("home", [])})

    def test_with_the_mark_seen(self):
        made = Folders()
        made.add("ann1", "home", ["seen", "a", "seen"])
        self.assertEqual(made.counts("home"), (1, 0))
        self.assertEqual(made.marked("home", "seen"), 1)
        self.assertEqual(made.folders(), [("home", 1, 0)])

    def test_marks_that_are_only_like_seen(self):
        made = folders_of({"n1": ("home", ["see"]), "n2": ("home", ["seen1"]), "n3": ("home", ["seen"])})
        self.assertEqual(made.counts("home"), (3, 2))
        self.assertEqual(made.marked("home", "see"), 1)

    def test_several(self):
        there = {"ann2": ("home", ["seen"]), "ann10": ("home", ["a"]), "bob1": ("inbox", []), "ann1": ("home", ["a"])}
        made = folders_of(there)
        self.assertEqual(made.names("home"), ["ann1", "ann10", "ann2"])
        self.assertEqual(made.folders(), [("home", 3, 2), ("inbox", 1, 1)])
        self.assertEqual(made.marked("home", "a"), 2)
        self.assert_plainly(made, there)

    def test_folders_and_marks_rise_as_texts(self):
        made = folders_of({f"n{k}": (folder, [folder]) for k, folder in enumerate(["b2", "b10", "9", "b", "a"])})
        self.assertEqual([folder for folder, whole, unseen in made.folders()], ["9", "a", "b", "b10", "b2"])
        made.add("m", "z", ["b2", "b10", "9", "b", "a"])
        self.assertEqual(made.marks("m"), ["9", "a", "b", "b10", "b2"])

    def test_a_folder_called_like_a_name_or_a_mark(self):
        there = {"home": ("seen", ["home"]), "seen": ("home", ["seen"])}
        self.assert_plainly(folders_of(there), there, ("inbox",), ("seen", "home"))


class PlaceTest(FoldersCase):

    def test_into_another_folder(self):
        made = folders_of({"n1": ("home", ["a"]), "n2": ("home", []), "n3": ("work", ["seen"])})
        self.assertIsNone(made.place("n1", "work"))
        self.assert_plainly(made, {"n1": ("work", ["a"]), "n2": ("home", []), "n3": ("work", ["seen"])})
        self.assertEqual(made.folders(), [("home", 1, 1), ("work", 2, 1)])

    def test_into_a_new_one_from_one_that_is_then_empty(self):
        made = folders_of({"n1": ("home", ["seen"])})
        made.place("n1", "work")
        self.assertEqual(made.folders(), [("work", 1, 0)])
        self.assertEqual(made.counts("home"), (0, 0))
        self.assertEqual(made.names("home"), [])
        self.assertEqual(made.marked("home", "seen"), 0)
        self.assert_plainly(made, {"n1": ("work", ["seen"])})

    def test_into_the_same_one(self):
        for there in ({"n1": ("home", ["a"])}, {"n1": ("home", ["a"]), "n2": ("home", ["seen"])}):
            made = folders_of(there)
            self.assertIsNone(made.place("n1", "home"))
            self.assert_plainly(made, there)

    def test_there_and_back(self):
        there = {"n1": ("home", ["seen"]), "n2": ("inbox", [])}
        made = folders_of(there)
        made.place("n1", "inbox")
        self.assertEqual(made.folders(), [("inbox", 2, 1)])
        made.place("n1", "home")
        self.assert_plainly(made, there)


class MarkTest(FoldersCase):

    def test_a_mark_given_and_taken_off(self):
        made = folders_of({"n1": ("home", []), "n2": ("home", ["b"])})
        self.assertIsNone(made.mark("n1", "b"))
        self.assertEqual(made.marks("n1"), ["b"])
        made.mark("n1", "a")
        self.assert_plainly(made, {"n1": ("home", ["a", "b"]), "n2": ("home", ["b"])})
        self.assertIsNone(made.unmark("n1", "b"))
        self.assert_plainly(made, {"n1": ("home", ["a"]), "n2": ("home", ["b"])})
        self.assertEqual(made.marked("home", "b"), 1)

    def test_a_mark_that_it_has(self):
        there = {"n1": ("home", ["a", "seen"])}
        made = folders_of(there)
        for word in ("a", "seen"):
            self.assertIsNone(made.mark("n1", word))
            self.assert_plainly(made, there)
        made.unmark("n1", "seen")
        self.assert_plainly(made, {"n1": ("home", ["a"])})

    def test_a_mark_that_it_has_not(self):
        there = {"n1": ("home", ["a"]), "n2": ("home", ["b", "seen"])}
        made = folders_of(there)
        for word in ("b", "none", "seen"):
            self.assertIsNone(made.unmark("n1", word))
            self.assert_plainly(made, there)

    def test_seen_given_and_taken_off(self):
        made = folders_of({"n1": ("home", []), "n2": ("home", [])})
        for on, counts in ((True, (2, 1)), (True, (2, 1)), (False, (2, 2)), (False, (2, 2)), (True, (2, 1))):
            (made.mark if on else made.unmark)("n1", "seen")
            self.assertEqual(made.counts("home"), counts)
            self.assertEqual(made.folders(), [("home",) + counts])

    def test_seen_along_with_a_move(self):
        made = folders_of({"n1": ("home", ["seen"]), "n2": ("home", []), "n3": ("work", [])})
        made.place("n1", "work")
        self.assertEqual(made.folders(), [("home", 1, 1), ("work", 2, 1)])
        made.unmark("n1", "seen")
        self.assertEqual(made.folders(), [("home", 1, 1), ("work", 2, 2)])
        made.place("n1", "home")
        made.mark("n1", "seen")
        self.assertEqual(made.folders(), [("home", 2, 1), ("work", 1, 1)])
        made.take_out("n1")
        self.assert_plainly(made, {"n2": ("home", []), "n3": ("work", [])})


class TakeOutTest(FoldersCase):

    def test_one_of_several(self):
        made = folders_of({"n1": ("home", ["seen", "a"]), "n2": ("home", ["a"]), "n3": ("work", [])})
        self.assertIsNone(made.take_out("n1"))
        self.assert_plainly(made, {"n2": ("home", ["a"]), "n3": ("work", [])})

    def test_the_last_of_a_folder(self):
        made = folders_of({"n1": ("home", ["seen"]), "n2": ("work", [])})
        made.take_out("n1")
        self.assertEqual(made.folders(), [("work", 1, 1)])
        self.assertEqual(made.counts("home"), (0, 0))
        made.take_out("n2")
        self.assert_plainly(made, {})

    def test_one_that_comes_again(self):
        made = folders_of({"n1": ("home", ["seen", "a"])})
        made.take_out("n1")
        made.add("n1")
        self.assert_plainly(made, {"n1": ("inbox", [])})


class RoadsTest(FoldersCase):

    def test_the_same_end_by_any_order_of_deeds(self):
        deeds = [
            lambda made: made.place("n1", "work"), lambda made: made.mark("n1", "seen"),
            lambda made: made.unmark("n2", "seen"), lambda made: made.place("n2", "home"),
            lambda made: made.mark("n2", "a"),
        ]
        for order in itertools.permutations(deeds):
            made = folders_of({"n1": ("home", []), "n2": ("inbox", ["seen"])})
            for deed in order:
                deed(made)
            self.assert_plainly(made, {"n1": ("work", ["seen"]), "n2": ("home", ["a"])})

    def step(self, made, there, chance):
        name = chance.choice(["ann1", "ann2", "ann10", "bob1", "bob2"])
        folder = chance.choice(["inbox", "home", "work"])
        word = chance.choice(["seen", "seen", "a", "b"])
        kind = chance.choice(["add", "take_out", "place", "mark", "unmark"])
        if (name in there) == (kind == "add"):
            given = {"take_out": (), "add": (folder, [word]), "place": (folder,)}.get(kind, (word,))
            assert_refused(self, NoName, getattr(made, kind), name, *given)
        elif kind == "add":
            marks = chance.choices(["seen", "a", "b"], k=chance.randrange(4))
            made.add(name, folder, marks)
            there[name] = (folder, set(marks))
        elif kind == "take_out":
            made.take_out(name)
            there.pop(name)
        elif kind == "place":
            made.place(name, folder)
            there[name] = (folder, there[name][1])
        elif kind == "mark":
            made.mark(name, word)
            there[name][1].add(word)
        else:
            made.unmark(name, word)
            there[name][1].discard(word)

    def test_long_roads_by_chance(self):
        chance = random.Random(41)
        for again in range(30):
            made, there = Folders(), {}
            for step in range(80):
                self.step(made, there, chance)
                self.assert_plainly(made, there, ("inbox", "home", "work", "nowhere"))
            self.assertEqual(made.folders(), folders_of(there).folders())

    def test_200_names_and_2000_deeds(self):
        names = [f"n{k}" for k in range(200)]
        made = folders_of({name: ("inbox", []) for name in names})
        for k in range(2000):
            made.place(names[k * 7 % 200], f"f{k % 30}")
            made.mark(names[k % 200], ["seen", f"w{k % 11}"][k % 2])
            self.assertEqual(sum(whole for folder, whole, unseen in made.folders()), 200)
        self.assert_plainly(made, {name: (made.folder(name), made.marks(name)) for name in names})


class RefusedTest(FoldersCase):

    THERE = {"n1": ("home", ["a", "seen"]), "n2": ("inbox", [])}

    def assert_refused(self, made, ask, *given):
        assert_refused(self, NoName, ask, *given)
        self.assert_plainly(made, self.THERE, ("work", "nowhere"))

    def test_add_of_a_name_that_is_there(self):
        made = folders_of(self.THERE)
        for name in self.THERE:
            self.assert_refused(made, made.add, name)
            for folder in ("home", "inbox", "work"):
                for marks in (None, [], ["b"], ["a", "seen"]):
                    self.assert_refused(made, made.add, name, folder, marks)

    def asks(self, made):
        return [
            (made.take_out,), (made.place, "work"), (made.place, "home"), (made.mark, "b"), (made.mark, "seen"),
            (made.unmark, "b"), (made.unmark, "a"), (made.folder,), (made.marks,),
        ]

    def test_names_that_are_not_there(self):
        made = folders_of(self.THERE)
        for name in ["n3", "home", "inbox", "a", "", "N1", "n"] + NO_NAMES:
            for ask, *given in self.asks(made):
                self.assert_refused(made, ask, name, *given)
        for ask, *given in self.asks(Folders()):
            self.assert_refused(made, ask, "n1", *given)

    def test_what_is_no_text_does_not_come_to_be_there(self):
        made = folders_of(self.THERE)
        for name in NO_NAMES:
            self.assert_refused(made, made.add, name)
            self.assert_refused(made, made.add, name, "work", ["a"])

    def test_a_name_that_was_taken_out(self):
        made = folders_of({**self.THERE, "n3": ("work", ["a", "seen"])})
        made.take_out("n3")
        for ask, *given in self.asks(made):
            self.assert_refused(made, ask, "n3", *given)

    def test_what_makes_good_what_was_refused(self):
        made = folders_of(self.THERE)
        self.assert_refused(made, made.place, "n3", "work")
        self.assert_refused(made, made.mark, "n3", "b")
        made.add("n3")
        self.assert_plainly(made, {**self.THERE, "n3": ("inbox", [])}, ("work",))
        made.place("n3", "work")
        made.mark("n3", "b")
        self.assert_plainly(made, {**self.THERE, "n3": ("work", ["b"])})

    def test_folders_that_are_not_there_and_words_that_no_name_has(self):
        made = folders_of(self.THERE)
        for folder in ["work", "", "n1", "Home"] + NO_NAMES:
            self.assertEqual(made.counts(folder), (0, 0))
            self.assertEqual(made.names(folder), [])
            self.assertEqual(made.marked(folder, "seen"), 0)
        for word in ["none", "", "home", "Seen"] + NO_NAMES:
            self.assertEqual(made.marked("home", word), 0)
        self.assert_plainly(made, self.THERE)


class OwnerTest(FoldersCase):

    def test_the_marks_handed_in_may_be_changed(self):
        marks = ["b", "a", "b"]
        made = Folders()
        made.add("n1", "home", marks)
        made.mark("n1", "seen")
        self.assertEqual(marks, ["b", "a", "b"])
        marks.append("none")
        marks[0] = "c"
        self.assert_plainly(made, {"n1": ("home", ["a", "b", "seen"])})

    def test_one_list_of_marks_for_two(self):
        marks = ["a"]
        made = folders_of({"n1": ("home", marks), "n2": ("home", marks)})
        made.mark("n1", "b")
        made.unmark("n2", "a")
        self.assert_plainly(made, {"n1": ("home", ["a", "b"]), "n2": ("home", [])})

    def test_names_added_without_marks_have_none_in_common(self):
        made = Folders()
        made.add("n1")
        made.mark("n1", "a")
        made.add("n2")
        self.assertEqual(made.marks("n2"), [])

    def test_the_lists_told_are_the_askers_own(self):
        there = {"n1": ("home", ["a", "seen"]), "n2": ("home", [])}
        made = folders_of(there)
        for ask in (made.folders, lambda: made.names("home"), lambda: made.marks("n1"), lambda: made.marks("n2"),
                    lambda: made.names("nowhere")):
            spoil(ask())
            self.assert_plainly(made, there)

    def test_the_lists_told_stay_as_they_were(self):
        made = folders_of({"n1": ("home", ["a"]), "n2": ("home", [])})
        told = (made.folders(), made.names("home"), made.marks("n1"))
        made.place("n2", "work")
        made.mark("n1", "b")
        self.assertEqual(told, ([("home", 2, 2)], ["n1", "n2"], ["a"]))

    def test_kinds(self):
        made = folders_of({"n1": ("home", ["a"])})
        self.assertIs(type(made.counts("home")), tuple)
        self.assertIs(type(made.folders()[0]), tuple)
        self.assertIs(type(made.marked("home", "a")), int)
        self.assertTrue(all(type(number) is int for number in made.counts("home") + made.folders()[0][1:]))


if __name__ == "__main__":
    unittest.main()
