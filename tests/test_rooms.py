import unittest

from helper import ASKED, NO_NAMES, NO_TEXTS, assert_refused, assert_tells, spoil, state_of
from mailroom.cards import Card
from mailroom.errors import NoLetter, NoName, NoParcel, NoRule, NoWord
from mailroom.letters import Letter
from mailroom.rooms import Room

NO_WORDS = ["", " ", "A", "a b", "a\n", "\ta", "a-b", "a" * 21] + NO_TEXTS


class RoomCase(unittest.TestCase):

    def assert_done(self, room, ask, given, deeds, answer=None):
        """What is done at the room: these deeds, stamped behind all that are there; and all is told by them."""
        before = room.told()
        self.assertEqual(ask(*given), answer)
        clock = max([stamped[0] for stamped in before], default=0)
        number = len([stamped for stamped in before if stamped[1] == room.hand])
        new = [(clock + k, room.hand, number + k, deed) for k, deed in enumerate(deeds, start=1)]
        self.assertEqual(room.told(), before + new)
        self.assertEqual(room.told({stamped[1]: 9999 for stamped in before if stamped[1] != room.hand}),
                         [stamped for stamped in before + new if stamped[1] == room.hand])
        assert_tells(self, room, before + new)

    def assert_refused(self, room, error, ask, *given):
        before = room.told()
        rules = room.rules_written()
        assert_refused(self, error, ask, *given)
        self.assertEqual(room.told(), before)
        self.assertEqual(room.rules_written(), rules)
        assert_tells(self, room, before)


class MadeTest(RoomCase):

    def test_nothing_at_first(self):
        for hand in ("a", "ann", "abcdefgh"):
            room = Room(hand)
            self.assertEqual(room.hand, hand)
            self.assertEqual((room.have(), room.told(), room.rules_written()), ({}, [], ""))
            assert_tells(self, room, [])

    def test_of_what_is_no_hand(self):
        for thing in ["", "A", "Ann", "ann1", "a" * 9, "a b", "ann\n", " "] + NO_TEXTS:
            assert_refused(self, NoName, Room, thing)


class DeedsTest(RoomCase):

    def test_a_put(self):
        room = Room("ann")
        parts = ("bob", "Pay the RENT", "by friday\n", 12, "bob7")
        self.assert_done(room, room.put, parts, [("put", "ann1", parts)], "ann1")
        self.assert_done(room, room.put, parts[:4], [("put", "ann2", parts[:4] + ("",))], "ann2")
        self.assertEqual(room.folder("ann1"), "inbox")
        self.assertEqual(room.marks("ann1"), [])
        self.assertEqual(room.names_in("inbox"), ["ann1", "ann2"])

    def test_names_by_the_puts_of_the_hand(self):
        room = Room("ann")
        for k in range(1, 13):
            self.assertEqual(room.put("bob", "", "", k), f"ann{k}")
            room.mark("ann1", f"m{k}")
        room.drop("ann12")
        room.drop("ann3")
        self.assertEqual(room.put("bob", "", "", 0), "ann13")
        self.assertEqual(room.names()[:4], ["ann1", "ann10", "ann11", "ann13"])

    def test_puts_of_others_are_not_counted(self):
        room, other = Room("ann"), Room("bob")
        other.put("x", "", "", 1)
        other.put("x", "", "", 1)
        room.take(other.told())
        self.assertEqual(room.put("x", "", "", 1), "ann1")
        self.assertEqual(room.names(), ["ann1", "bob1", "bob2"])

    def test_puts_of_its_own_hand_that_were_told_to_it(self):
        room = Room("ann")
        room.take([(3, "ann", 1, ("put", "ann1", ("bob", "", "", 1, ""))), (4, "ann", 2, ("drop", "ann1"))])
        parts = ("bob", "Rent", "", 2, "")
        self.assert_done(room, room.put, parts, [("put", "ann2", parts)], "ann2")

    def test_a_place(self):
        room = Room("ann")
        room.put("bob", "Pay", "", 1)
        for folder in ("home", "home", "work", "inbox", "inbox"):
            self.assert_done(room, room.place, ("ann1", folder), [("place", "ann1", folder)])
            self.assertEqual(room.folder("ann1"), folder)

    def test_a_mark_and_an_unmark(self):
        room = Room("ann")
        room.put("bob", "Pay", "", 1)
        for given, truth in (((), True), ((), True), ((False,), False), ((False,), False), ((True,), True)):
            self.assert_done(room, room.mark, ("ann1", "seen") + given, [("mark", "ann1", "seen", truth)])
            self.assertEqual(room.marks("ann1"), ["seen"] if truth else [])
            self.assertEqual(room.counts("inbox"), (1, 0 if truth else 1))

    def test_a_drop(self):
        room = Room("ann")
        room.put("bob", "Pay", "", 1)
        room.put("bob", "Rent", "", 1, "ann1")
        self.assert_done(room, room.drop, ("ann1",), [("drop", "ann1")])
        self.assertEqual(room.names(), ["ann2"])
        self.assertEqual(room.having("pay"), [])

    def test_deeds_on_letters_of_others(self):
        room, other = Room("ann"), Room("bob")
        other.put("x", "Rent", "", 1)
        other.place("bob1", "home")
        room.take(other.told())
        self.assert_done(room, room.place, ("bob1", "work"), [("place", "bob1", "work")])
        self.assert_done(room, room.mark, ("bob1", "a"), [("mark", "bob1", "a", True)])
        self.assert_done(room, room.sort_anew, ("bob1",), [])
        self.assert_done(room, room.drop, ("bob1",), [("drop", "bob1")])


class RulesTest(RoomCase):

    def room_with(self, text):
        room = Room("ann")
        self.assertIsNone(room.rules(text))
        return room

    def test_rules_and_their_text(self):
        room = self.room_with(" if  any then stop \n\nif before 5 or in a then mark b,unmark c")
        self.assertEqual(room.rules_written(), "if any then stop\nif (day 0 to 4 or in a) then mark b, unmark c")
        room.rules("if word rent then place home")
        self.assertEqual(room.rules_written(), "if word rent then place home")
        room.rules(room.rules_written())
        self.assertEqual(room.rules_written(), "if word rent then place home")

    def test_rules_of_the_empty_text(self):
        for text in ("", "\n", "  \n \n"):
            room = self.room_with("if any then place home, mark a")
            room.rules(text)
            self.assertEqual(room.rules_written(), "")
            parts = ("bob", "", "", 1, "")
            self.assert_done(room, room.put, parts, [("put", "ann1", parts)], "ann1")
            self.assert_done(room, room.sort_anew, ("ann1",), [])

    def test_rules_that_are_refused_leave_the_old_ones(self):
        room = self.room_with("if any then mark old")
        for text, row in (("if any then", 1), ("if any then mark new\nif", 2), ("\n\nrule", 3),
                          ("if any then mark A", 1)):
            self.assert_refused(room, NoRule, room.rules, text)
            with self.assertRaises(NoRule) as caught:
                room.rules(text)
            self.assertEqual(caught.exception.row, row)
        room.put("bob", "", "", 1)
        self.assertEqual(room.marks("ann1"), ["old"])

    def test_a_place_deed_only_where_the_folder_is_not_inbox(self):
        for text, folder in (("if any then place home", "home"), ("if any then place inbox", None),
                             ("if any then place home, place inbox", None), ("if word none then place home", None),
                             ("if any then place home\nif in home then place work", "work")):
            room = self.room_with(text)
            parts = ("bob", "", "", 1, "")
            placed = [("place", "ann1", folder)] if folder else []
            self.assert_done(room, room.put, parts, [("put", "ann1", parts)] + placed, "ann1")

    def test_mark_deeds_in_order(self):
        room = self.room_with("if any then mark b, mark a10, unmark c, mark a2, mark d, unmark d, place home")
        parts = ("bob", "", "", 1, "")
        self.assert_done(room, room.put, parts, [
            ("put", "ann1", parts), ("place", "ann1", "home"), ("mark", "ann1", "a10", True),
            ("mark", "ann1", "a2", True), ("mark", "ann1", "b", True)], "ann1")

    def test_rules_of_the_time_of_the_put(self):
        room = self.room_with("if any then mark old")
        room.put("bob", "", "", 1)
        room.rules("if any then mark new")
        room.put("bob", "", "", 1)
        self.assertEqual((room.marks("ann1"), room.marks("ann2")), (["old"], ["new"]))

    def test_deeds_do_not_run_the_rules(self):
        room = Room("ann")
        room.put("bob", "", "", 1)
        room.rules("if any then mark a, place home")
        self.assert_done(room, room.place, ("ann1", "work"), [("place", "ann1", "work")])
        self.assert_done(room, room.mark, ("ann1", "b"), [("mark", "ann1", "b", True)])
        other = Room("bob")
        other.put("x", "", "", 1)
        room.take(other.told())
        self.assertEqual((room.folder("bob1"), room.marks("bob1")), ("inbox", []))

    def test_with_the_others_of_its_thread(self):
        room = Room("ann")
        room.put("bob", "Rent", "", 1)
        room.mark("ann1", "vip")
        room.put("cy", "", "", 1)
        room.rules("if thread marked vip then mark vip\nif thread word rent then place money")
        parts = ("bob", "", "", 2, "ann1")
        self.assert_done(room, room.put, parts, [
            ("put", "ann3", parts), ("place", "ann3", "money"), ("mark", "ann3", "vip", True)], "ann3")
        parts = ("bob", "", "", 2, "ann2")
        self.assert_done(room, room.put, parts, [("put", "ann4", parts)], "ann4")
        # By a letter that isn't there: only those that answer it, too.
        parts = ("bob", "rent", "", 2, "bob1")
        self.assert_done(room, room.put, parts, [("put", "ann5", parts)], "ann5")
        self.assert_done(room, room.put, parts, [("put", "ann6", parts), ("place", "ann6", "money")], "ann6")

    def test_the_letter_is_not_among_its_others(self):
        room = self.room_with("if thread any then mark others\nif not thread any then mark alone")
        for parts, marks in ((("bob", "", "", 1, "ann1"), ["alone"]), (("bob", "", "", 1, "ann1"), ["others"]),
                             (("bob", "", "", 1, ""), ["alone"])):
            name = room.put(*parts)
            self.assertEqual(room.marks(name), marks)

    def test_a_dropped_letter_is_not_among_the_others(self):
        room = Room("ann")
        room.put("bob", "Rent", "", 1)
        room.put("bob", "", "", 1, "ann1")
        room.drop("ann1")
        room.rules("if thread word rent then mark rent\nif thread any then mark others")
        self.assertEqual(room.marks(room.put("bob", "", "", 1, "ann1")), ["others"])

    def ahead(self, *deeds):
        """A room to which another hand told deeds of ann1, ahead of its put."""
        room = Room("ann")
        room.rules("if in inbox then mark fresh\nif marked seen then mark known\nif in home then mark moved\n"
                   "if thread any then mark others\nif word rent then place money")
        room.take([(k, "bob", k, deed) for k, deed in enumerate(deeds, start=1)])
        return room

    def test_where_place_and_mark_deeds_came_ahead_of_the_put(self):
        room = self.ahead(("place", "ann1", "home"), ("mark", "ann1", "seen", True), ("mark", "ann1", "fresh", True))
        parts = ("bob", "", "", 1, "")
        self.assert_done(room, room.put, parts, [("put", "ann1", parts), ("mark", "ann1", "fresh", True)], "ann1")
        self.assertEqual((room.folder("ann1"), room.marks("ann1")), ("home", ["fresh", "seen"]))

    def test_where_they_came_ahead_and_the_rules_place_it(self):
        room = self.ahead(("place", "ann1", "home"), ("mark", "ann1", "fresh", False), ("place", "ann1", "money"))
        parts = ("bob", "Rent", "", 1, "")
        self.assert_done(room, room.put, parts, [
            ("put", "ann1", parts), ("place", "ann1", "money"), ("mark", "ann1", "fresh", True)], "ann1")
        self.assertEqual((room.folder("ann1"), room.marks("ann1")), ("money", ["fresh"]))

    def test_where_a_drop_came_ahead_of_the_put(self):
        room = self.ahead(("put", "bob1", ("x", "", "", 1, "ann1")), ("drop", "ann1"))
        parts = ("bob", "Rent", "", 1, "bob1")
        self.assert_done(room, room.put, parts, [
            ("put", "ann1", parts), ("place", "ann1", "money"), ("mark", "ann1", "fresh", True)], "ann1")
        self.assertEqual(room.names(), ["bob1"])
        self.assertEqual(room.put("bob", "", "", 1, "bob1"), "ann2")
        self.assertEqual(room.marks("ann2"), ["fresh", "others"])

    def test_a_put_that_stands_beside_others_when_no_drop_came_ahead(self):
        room = self.ahead(("put", "bob1", ("x", "", "", 1, "ann1")))
        parts = ("bob", "", "", 1, "")
        self.assert_done(room, room.put, parts, [
            ("put", "ann1", parts), ("mark", "ann1", "fresh", True), ("mark", "ann1", "others", True)], "ann1")


class SortAnewTest(RoomCase):

    def room_with(self, folder, marks, text):
        room = Room("ann")
        room.put("bob", "Rent", "", 1)
        room.place("ann1", folder)
        for word in marks:
            room.mark("ann1", word)
        room.rules(text)
        return room

    def test_a_folder_that_changes(self):
        room = self.room_with("home", ["a"], "if word rent then place money")
        self.assert_done(room, room.sort_anew, ("ann1",), [("place", "ann1", "money")])
        self.assert_done(room, room.sort_anew, ("ann1",), [])

    def test_a_folder_that_stays(self):
        for text in ("if any then place home", "if any then place work, place home", "if any then stop", ""):
            room = self.room_with("home", ["a"], text)
            self.assert_done(room, room.sort_anew, ("ann1",), [])

    def test_into_the_inbox(self):
        room = self.room_with("home", ["a"], "if any then place inbox")
        self.assert_done(room, room.sort_anew, ("ann1",), [("place", "ann1", "inbox")])

    def test_new_marks(self):
        room = self.room_with("home", ["a", "c"], "if any then mark d, mark b10, mark b2, mark a")
        self.assert_done(room, room.sort_anew, ("ann1",), [
            ("mark", "ann1", "b10", True), ("mark", "ann1", "b2", True), ("mark", "ann1", "d", True)])

    def test_marks_that_are_gone(self):
        room = self.room_with("home", ["c", "b10", "b2", "a"], "if any then unmark c, unmark b2, unmark b10, unmark x")
        self.assert_done(room, room.sort_anew, ("ann1",), [
            ("mark", "ann1", "b10", False), ("mark", "ann1", "b2", False), ("mark", "ann1", "c", False)])

    def test_all_in_order(self):
        room = self.room_with("home", ["c", "b"], "if any then unmark c, mark z, unmark b, mark d, place work")
        self.assert_done(room, room.sort_anew, ("ann1",), [
            ("place", "ann1", "work"), ("mark", "ann1", "d", True), ("mark", "ann1", "z", True),
            ("mark", "ann1", "b", False), ("mark", "ann1", "c", False)])

    def test_a_mark_that_goes_and_comes(self):
        room = self.room_with("home", ["a"], "if any then unmark a, mark a, mark b, unmark b")
        self.assert_done(room, room.sort_anew, ("ann1",), [])

    def test_its_card_is_as_it_is(self):
        text = "if in home and marked a then mark met\nif in inbox then mark inbox\nif in home then place work"
        room = self.room_with("home", ["a"], text)
        self.assert_done(room, room.sort_anew, ("ann1",), [("place", "ann1", "work"), ("mark", "ann1", "met", True)])

    def test_with_the_others_of_its_thread(self):
        room = self.room_with("home", [], "if thread marked vip then place vip\nif thread from bob then mark bob")
        room.rules("")
        room.put("cy", "", "", 1, "ann1")
        room.mark("ann2", "vip")
        room.rules("if thread marked vip then place vip\nif thread from bob then mark bob")
        self.assert_done(room, room.sort_anew, ("ann1",), [("place", "ann1", "vip")])
        self.assert_done(room, room.sort_anew, ("ann2",), [("mark", "ann2", "bob", True)])


class RefusedTest(RoomCase):

    def room(self):
        """A room with two letters there and one that was dropped."""
        room = Room("ann")
        room.rules("if word rent then mark money")
        for k in range(3):
            room.put("bob", "Rent", "", k, "ann1")
        room.drop("ann2")
        return room

    def test_names_that_are_not_there(self):
        room = self.room()
        room.take([(1, "bob", 1, ("place", "bob1", "home"))])
        for name in ["ann2", "ann4", "bob1", "ann", "", "Ann1", "inbox"] + NO_NAMES:
            for ask, *given in (
                (room.place, "home"), (room.mark, "a"), (room.mark, "a", False), (room.drop,), (room.sort_anew,),
                (room.letter_at,), (room.folder,), (room.marks,), (room.card,), (room.thread,),
            ):
                self.assert_refused(room, NoName, ask, name, *given)

    def test_what_is_no_word(self):
        room = self.room()
        for word in NO_WORDS:
            self.assert_refused(room, NoWord, room.place, "ann1", word)
            self.assert_refused(room, NoWord, room.mark, "ann1", word)
            self.assert_refused(room, NoWord, room.mark, "ann1", word, False)

    def test_no_name_ahead_of_no_word(self):
        room = self.room()
        for name in ("ann2", "ann9", "", None, 3):
            for word in ("", "A", None, 7):
                self.assert_refused(room, NoName, room.place, name, word)
                self.assert_refused(room, NoName, room.mark, name, word)
                self.assert_refused(room, NoName, room.mark, name, word, False)

    def test_puts_that_are_no_letter(self):
        room = self.room()
        sound = ("bob", "Rent", "pay", 1, "ann1")
        for place, wrong in enumerate([NO_WORDS, ["t" * 61, "a\nb", None, 5], ["b" * 401, None, 5, ["a"]],
                                       [-1, 10000, True, None, "5"], NO_WORDS[1:]]):
            for thing in wrong:
                self.assert_refused(room, NoLetter, room.put, *sound[:place], thing, *sound[place + 1:])
        self.assertEqual(room.put(*sound), "ann4")

    def test_parcels(self):
        room = self.room()
        for parcel in [None, (), "", ((1, "bob", 1, ("drop", "ann1")),), [("drop", "ann1")], [None],
                       [(1, "bob", 2, ("drop", "ann1"))], [(1, "ann", 1, ("drop", "ann1"))],
                       [(1, "bob", 1, ("drop", "ann1")), (1, "bob", 2, ("drop", "ann3"))],
                       [(1, "bob", 1, ("drop", "ann1")), (2, "bob", 1, ("drop", "ann1"))],
                       [(1, "bob", 1, ("drop", "ann1")), (2, "bob", 2, ("put", "bob2", ("x", "", "", 1, "")))],
                       [(1, "bob", 1, ("place", "ann1", "home")), (2, "bob", 2, ("place", "ann1", "Home"))],
                       [(90, "bob", 1, ("place", "ann1", "home")), (5, "ann", 90, ("drop", "ann1"))]]:
            self.assert_refused(room, NoParcel, room.take, parcel)
        self.assertEqual(room.take([(1, "bob", 1, ("drop", "ann1"))]), 1)
        self.assertEqual(room.names(), ["ann3"])

    def test_conditions(self):
        room = self.room()
        for text in ("", " ", "word", "word A", "any any", "in", "(any", "any)", "day", "day 12345", "before 0",
                     "after 9999", "thread thread thread any", "not " * 30 + "any", "rent", "any\n", "word rent\tany"):
            self.assert_refused(room, NoRule, room.find, text)
            with self.assertRaises(NoRule) as caught:
                room.find(text)
            self.assertEqual(caught.exception.row, 0)


class AskedTest(RoomCase):

    def room(self):
        room = Room("ann")
        for parts in (("bob", "Pay", "the rent", 7, ""), ("cy", "Re pay", "", 3, "ann1"), ("bob", "", "Rent", 3, ""),
                      ("dan", "rent", "pay a", 12, "ann2"), ("bob", "Other", "", 3, "gone1"), ("cy", "", "", 0, "")):
            room.put(*parts)
        room.place("ann1", "home")
        room.place("ann4", "work")
        for name, word in (("ann1", "seen"), ("ann4", "a"), ("ann3", "seen")):
            room.mark(name, word)
        return room

    def test_find_by_each_form(self):
        room = self.room()
        for text, wanted in (
            ("any", "ann6 ann2 ann3 ann5 ann1 ann4"), ("word rent", "ann3 ann1 ann4"), ("word pay", "ann2 ann1 ann4"),
            ("title pay", "ann2 ann1"), ("title rent", "ann4"), ("from bob", "ann3 ann5 ann1"), ("from ann", ""),
            ("day 3", "ann2 ann3 ann5"), ("day 7 to 12", "ann1 ann4"), ("day 12 to 7", ""), ("before 3", "ann6"),
            ("after 7", "ann4"), ("in home", "ann1"), ("in inbox", "ann6 ann2 ann3 ann5"), ("in nowhere", ""),
            ("marked seen", "ann3 ann1"), ("marked none", ""), ("answers", "ann2 ann5 ann4"),
            ("not answers", "ann6 ann3 ann1"), ("word rent and marked seen", "ann3 ann1"),
            ("in home or from cy", "ann6 ann2 ann1"), ("thread marked seen", "ann2 ann4"),
            ("thread any", "ann2 ann1 ann4"), ("thread marked a", "ann2 ann1"),
            ("thread (in inbox and thread in work)", "ann1 ann4"), ("not thread any", "ann6 ann3 ann5"),
            ("thread thread marked seen", "ann2 ann1 ann4"),
        ):
            self.assertEqual(room.find(text), wanted.split(), text)

    def test_equal_days_rise_by_names(self):
        room = Room("ann")
        for k in range(12):
            room.put("bob", "", "", 10 - k % 2)
        wanted = [f"ann{k}" for k in (10, 12, 2, 4, 6, 8, 1, 11, 3, 5, 7, 9)]
        self.assertEqual(room.find("any"), wanted)

    def test_days_rise_as_numbers(self):
        room = Room("ann")
        for day in (100, 20, 3, 9999, 0):
            room.put("bob", "", "", day)
        self.assertEqual(room.find("any"), ["ann5", "ann3", "ann2", "ann1", "ann4"])

    def test_each_asking(self):
        room = self.room()
        self.assertEqual(room.names(), [f"ann{k}" for k in range(1, 7)])
        self.assertEqual(room.letter_at("ann2").parts(), ("cy", "Re pay", "", 3, "ann1"))
        self.assertEqual(room.thread("ann2"), ["ann1", "ann2", "ann4"])
        self.assertEqual(room.threads(), [["ann1", "ann2", "ann4"], ["ann3"], ["ann5"], ["ann6"]])
        self.assertEqual(room.counts("inbox"), (4, 3))
        self.assertEqual(room.counts("none"), (0, 0))
        self.assertEqual(room.folders(), [("home", 1, 0), ("inbox", 4, 3), ("work", 1, 1)])
        self.assertEqual((room.marked("inbox", "seen"), room.marked("work", "a"), room.marked("x", "a")), (1, 1, 0))
        self.assertEqual(room.names_in("inbox"), ["ann2", "ann3", "ann5", "ann6"])
        self.assertEqual(room.names_in("none"), [])
        self.assertEqual(room.having("rent"), ["ann1", "ann3", "ann4"])
        self.assertEqual(room.having("ren"), [])
        self.assertIsInstance(room.letter_at("ann1"), Letter)
        self.assertIsInstance(room.card("ann1"), Card)

    def asks(self, room):
        return [
            room.names, room.threads, room.folders, room.have, room.told, lambda: room.told({"ann": 3}),
            lambda: room.marks("ann1"), lambda: room.marks("ann2"), lambda: room.thread("ann2"),
            lambda: room.names_in("inbox"), lambda: room.names_in("none"), lambda: room.having("rent"),
            lambda: room.having("none"), lambda: room.find("any"), lambda: room.find("word none"),
            lambda: room.card("ann1").signs, lambda: room.letter_at("ann1").words(), lambda: room.told({"ann": 99}),
        ]

    def test_lists_and_dicts_told_are_the_askers_own(self):
        room = self.room()
        deeds = room.told()
        for ask in self.asks(room):
            spoil(ask())
            self.assertEqual(room.told(), deeds)
            assert_tells(self, room, deeds)

    def test_lists_and_dicts_told_stay_as_they_were(self):
        room, same = self.room(), self.room()
        told = [ask() for ask in self.asks(room)]
        letter, card = room.letter_at("ann1"), room.card("ann1")
        room.rules("if any then place work, mark rent")
        room.put("bob", "rent", "rent", 1, "ann1")
        room.sort_anew("ann2")
        room.drop("ann1")
        self.assertEqual(told, [ask() for ask in self.asks(same)])
        self.assertEqual(letter.parts(), same.letter_at("ann1").parts())
        self.assertEqual(state_of(card), state_of(same.card("ann1")))

    def test_letters_and_cards_told_may_be_changed(self):
        room = self.room()
        deeds = room.told()
        for letter in (room.letter_at("ann1"), room.card("ann1").letter):
            letter.sender, letter.title, letter.body, letter.day, letter.answers = "x", "y", "z", 9, "ann3"
            assert_tells(self, room, deeds)
        card = room.card("ann1")
        card.box = "none"
        card.signs.append("b")
        card.letter = room.letter_at("ann2")
        assert_tells(self, room, deeds)
        self.assertEqual(room.told(), deeds)

    def test_parcels_and_dicts_handed_in_may_be_changed(self):
        room, other = self.room(), Room("bob")
        parcel = room.told()
        have = other.have()
        room.told(have)
        self.assertEqual(have, {})
        self.assertEqual(other.take(parcel), len(parcel))
        self.assertEqual(parcel, room.told())
        deeds = list(parcel)
        spoil(parcel)
        have["ann"] = 99
        for one in (room, other):
            self.assertEqual(one.told(), deeds)
            assert_tells(self, one, deeds)

    def test_asked_by_conditions_of_many_forms(self):
        assert_tells(self, self.room(), self.room().told(), ASKED)


if __name__ == "__main__":
    unittest.main()
