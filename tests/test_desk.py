import itertools
import random
import unittest

from helper import NO_NAMES, assert_refused, assert_tells, spoil
from mailroom.desk import Desk
from mailroom.errors import NoName
from mailroom.letters import letter_text
from mailroom.rooms import Room, meet

NO_HANDS = ["Ann", "ANN", "ann1", "1", "a-n", "abcdefghi", "ann\n", "ann\t", "\nann", "\t", "\n", "(", "~", "a,b"]
NO_ROW = ["refused: NoRow"]
NO_NAME = ["refused: NoName"]
NO_WORD = ["refused: NoWord"]
NO_LETTER = ["refused: NoLetter"]
NO_RULE = ["refused: NoRule"]
# A sound row of each form, and whether a part may be added behind.
FORMS = [
    ("ann put bob 5 Rent", True), ("ann put bob 5", True), ("ann put bob 5 re ann1 Rent", True),
    ("ann place ann1 home", False), ("ann mark ann1 seen", False), ("ann unmark ann1 seen", False),
    ("ann sort ann1", False), ("ann rule if any then mark a", True), ("ann rules", False), ("ann forget", False),
    ("ann meet bob", False), ("ann tell bob", False), ("ann folders", False), ("ann folder inbox", False),
    ("ann thread ann1", False), ("ann threads", False), ("ann find any", True), ("ann show ann1", False),
    ("ann drop ann1", False),
]
# How many parts each form has at least, hand and word counted.
LEAST = {"put": 4, "place": 4, "mark": 4, "unmark": 4, "rule": 3, "rules": 2, "forget": 2, "folders": 2, "threads": 2,
         "find": 3, "drop": 3, "sort": 3, "meet": 3, "tell": 3, "folder": 3, "thread": 3, "show": 3}


def state(desk, hands=("ann", "bob", "cy")):
    return [(desk.room(hand).told(), desk.room(hand).rules_written()) for hand in hands]


def desk_with(*rows):
    desk = Desk()
    for row in rows:
        desk.say(row)
    return desk


class DeskCase(unittest.TestCase):

    def assert_said(self, desk, *rows):
        """Rows, each with what is answered."""
        for row, answer in rows:
            told = desk.say(row)
            self.assertIs(type(told), list)
            self.assertEqual(told, answer, row)

    def assert_refused(self, desk, row, answer):
        before = state(desk)
        self.assertEqual(desk.say(row), answer, row)
        self.assertEqual(state(desk), before, row)


class FormsTest(DeskCase):

    def filled(self):
        return desk_with("ann put bob 3 Rent", "bob put x 1 Pay", "ann rule if word pay then mark money")

    def test_each_form_is_taken(self):
        for row, more in FORMS:
            self.assertNotIn("refused", " ".join(self.filled().say(row)), row)

    def test_blanks_between_ahead_and_behind(self):
        for row, more in FORMS:
            parts = row.split(" ")
            wanted = self.filled()
            answer = wanted.say(row)
            for text in ("  ".join(parts), " " + row, row + " ", "   " + "    ".join(parts) + "  "):
                desk = self.filled()
                self.assertEqual(desk.say(text), answer, text)
                self.assertEqual(state(desk), state(wanted))

    def test_a_part_that_lacks(self):
        for row, more in FORMS:
            parts = row.split(" ")
            desk = self.filled()
            for count in range(LEAST[parts[1]]):
                self.assert_refused(desk, " ".join(parts[:count]), NO_ROW)

    def test_a_part_too_many(self):
        for row, more in FORMS:
            for part in ("x", "ann1", "and any", "\t", "\n"):
                if not more:
                    self.assert_refused(self.filled(), row + " " + part, NO_ROW)

    def test_hands_that_are_none(self):
        for row, more in FORMS:
            desk = self.filled()
            for hand in NO_HANDS:
                self.assert_refused(desk, hand + row[3:], NO_ROW)

    def test_others_that_are_none(self):
        desk = self.filled()
        for hand in NO_HANDS:
            for form in ("meet", "tell"):
                self.assert_refused(desk, f"ann {form} {hand}", NO_ROW)
                self.assert_refused(desk, f"{hand} {form} ann", NO_ROW)

    def test_rows_of_no_form(self):
        desk = self.filled()
        for row in ("", " ", "   ", "\n", "\t", "ann", " ann ", "ann ann", "put", "put bob 5", "ann PUT bob 5",
                    "ann Put bob 5", "ann puts bob 5", "ann sorts", "ann name ann1", "ann names", "ann take bob",
                    "ann told", "ann have", "ann sort_anew ann1", "ann counts inbox", "ann mark\tann1 seen",
                    "ann\nrules", "ann rules\n", "ann\tput bob 5", "ann folders\t", "ann letter ann1",
                    "ann card ann1", "ann refused: x"):
            self.assert_refused(desk, row, NO_ROW)

    def test_a_tab_or_a_line_feed_stays_in_its_part(self):
        desk = self.filled()
        for sign in ("\t", "\n"):
            for row, answer in (
                (f"ann put bo{sign}b 5 Rent", NO_LETTER), (f"ann put bob{sign} 5", NO_LETTER),
                (f"ann put bob 5{sign}", NO_ROW), (f"ann put bob{sign}5", NO_ROW), (f"ann put bob 5{sign}5", NO_ROW),
                (f"ann place ann1{sign} home", NO_NAME), (f"ann place ann1 ho{sign}me", NO_WORD),
                (f"ann place ann1{sign}home", NO_ROW), (f"ann mark ann1 {sign}", NO_WORD),
                (f"ann unmark ann1 seen{sign}", NO_WORD), (f"ann drop ann1{sign}", NO_NAME),
                (f"ann sort {sign}ann1", NO_NAME), (f"ann show ann1{sign}", NO_NAME), (f"ann thread {sign}", NO_NAME),
                (f"ann find word{sign}rent", NO_RULE), (f"ann find any{sign}", NO_RULE), (f"ann find {sign}", NO_RULE),
                (f"ann rule if any then stop{sign}", NO_RULE), (f"ann rule {sign}", NO_RULE),
                (f"ann rule if any then mark a{sign}if any then mark b", NO_RULE), (f"ann rule{sign}if any", NO_ROW),
                (f"ann rule if any then mark a {sign} if any then mark b", NO_RULE), (f"ann meet bob{sign}", NO_ROW),
            ):
                self.assert_refused(desk, row, answer)
            self.assertEqual(desk.say(f"ann folder inbox{sign}"), [])
        self.assert_refused(desk, "ann put bob 5 a\nb", NO_LETTER)
        self.assert_refused(desk, "ann put bob 5 re ann1 \n", NO_LETTER)
        self.assertEqual(desk.say("ann put bob 5 a\tb \t"), ["ann2"])
        self.assertEqual(desk.room("ann").letter_at("ann2").title, "a\tb \t")


class PutTest(DeskCase):

    def assert_put(self, row, parts):
        desk = Desk()
        self.assertEqual(desk.say(row), ["ann1"])
        self.assertEqual(desk.room("ann").letter_at("ann1").parts(), parts)

    def test_with_and_without_title(self):
        self.assert_put("ann put bob 12 Pay the RENT, a-1!", ("bob", "Pay the RENT, a-1!", "", 12, ""))
        self.assert_put("ann  put bob  12   Pay   the  RENT ", ("bob", "Pay the RENT", "", 12, ""))
        self.assert_put("ann put bob 12", ("bob", "", "", 12, ""))
        self.assert_put("ann put bob 12 " + "t" * 60, ("bob", "t" * 60, "", 12, ""))

    def test_with_re(self):
        self.assert_put("ann put bob 12 re cy7 Pay the rent", ("bob", "Pay the rent", "", 12, "cy7"))
        self.assert_put("ann put bob 12 re cy7", ("bob", "", "", 12, "cy7"))
        self.assert_put("ann put bob 12 re re", ("bob", "", "", 12, "re"))
        self.assert_put("ann put bob 12 re re re", ("bob", "re", "", 12, "re"))
        self.assert_put("ann put bob 12 re ann1 re cy7", ("bob", "re cy7", "", 12, "ann1"))
        self.assert_put("ann put bob 12 re " + "a" * 20 + " x", ("bob", "x", "", 12, "a" * 20))
        self.assert_put("ann put bob 12  re  7  x", ("bob", "x", "", 12, "7"))

    def test_re_that_belongs_to_the_title(self):
        self.assert_put("ann put bob 12 re", ("bob", "re", "", 12, ""))
        self.assert_put("ann put bob 12 re Rent", ("bob", "re Rent", "", 12, ""))
        self.assert_put("ann put bob 12 re: cy7", ("bob", "re: cy7", "", 12, ""))
        self.assert_put("ann put bob 12 re a-b cy7", ("bob", "re a-b cy7", "", 12, ""))
        self.assert_put("ann put bob 12 re " + "a" * 21, ("bob", "re " + "a" * 21, "", 12, ""))
        self.assert_put("ann put bob 12 Re cy7", ("bob", "Re cy7", "", 12, ""))
        self.assert_put("ann put bob 12 RE cy7", ("bob", "RE cy7", "", 12, ""))
        self.assert_put("ann put bob 12 rent re cy7", ("bob", "rent re cy7", "", 12, ""))
        self.assert_put("ann put bob 12 re cy7\t x", ("bob", "re cy7\t x", "", 12, ""))

    def test_days(self):
        for text, day in (("0", 0), ("5", 5), ("05", 5), ("0005", 5), ("9999", 9999), ("0000", 0), ("123", 123)):
            self.assert_put(f"ann put bob {text} x", ("bob", "x", "", day, ""))
            self.assert_put(f"ann put bob {text}", ("bob", "", "", day, ""))

    def test_days_of_other_signs_or_too_many_figures(self):
        desk = Desk()
        for day in ("12345", "00001", "10000", "-1", "+1", "1.0", "a", "x12", "12x", "1_0", "re", "0x1", "1,", "(1)",
                    "1e3", "day"):
            for behind in (f"bob {day} x", f"bob {day}", f"Bob {day}", f"bob {day} re cy7"):
                row = "ann put " + behind
                self.assert_refused(desk, row, NO_ROW)

    def test_what_is_no_letter(self):
        desk = Desk()
        for row in ("ann put Bob 5 x", "ann put b-b 5", "ann put " + "a" * 21 + " 5", "ann put bob 5 " + "t" * 61,
                    "ann put bob 5 re cy7 " + "t" * 61, "ann put bob 5 re " + "A" * 58, "ann put (bob) 5"):
            self.assert_refused(desk, row, NO_LETTER)
        self.assertEqual(desk.say("ann put bob 5"), ["ann1"])

    def test_names_and_rules(self):
        desk = Desk()
        self.assert_said(
            desk, ("ann rule if title rent then place money, mark open", ["ok"]), ("ann put bob 5 Rent", ["ann1"]),
            ("ann put bob 5 Tea", ["ann2"]), ("bob put bob 5 Rent", ["bob1"]),
            ("ann folders", ["inbox 1 1", "money 1 1"]), ("bob folders", ["inbox 1 1"]))


class DeedsTest(DeskCase):

    def test_each_deed(self):
        desk = desk_with("ann put bob 5 Rent", "ann put bob 6 Pay")
        room = desk.room("ann")
        deeds = [stamped[3] for stamped in room.told()]
        for row, deed in (
            ("ann place ann1 home", ("place", "ann1", "home")), ("ann place ann1 home", ("place", "ann1", "home")),
            ("ann mark ann1 seen", ("mark", "ann1", "seen", True)), ("ann mark ann1 a", ("mark", "ann1", "a", True)),
            ("ann unmark ann1 a", ("mark", "ann1", "a", False)), ("ann unmark ann1 b", ("mark", "ann1", "b", False)),
            ("ann drop ann2", ("drop", "ann2")),
        ):
            self.assert_said(desk, (row, ["ok"]))
            deeds.append(deed)
            self.assertEqual([stamped[3] for stamped in room.told()], deeds)
            assert_tells(self, room, room.told())

    def test_sort(self):
        desk = desk_with("ann put bob 5 Rent", "ann mark ann1 old")
        desk.say("ann rule if any then unmark old, place home, mark a")
        self.assert_said(desk, ("ann sort ann1", ["ok"]), ("ann folders", ["home 1 1"]))
        self.assertEqual(desk.room("ann").marks("ann1"), ["a"])
        number = len(desk.room("ann").told())
        self.assert_said(desk, ("ann sort ann1", ["ok"]))
        self.assertEqual(len(desk.room("ann").told()), number)

    def test_names_that_are_not_there(self):
        desk = desk_with("ann put bob 5 Rent", "ann put bob 5 Rent", "ann drop ann2", "bob put x 1")
        for name in ("ann2", "ann3", "bob1", "Ann1", "ann", "inbox", "a-b", "a" * 30):
            for row in (f"ann place {name} home", f"ann mark {name} a", f"ann unmark {name} a", f"ann drop {name}",
                        f"ann sort {name}", f"ann thread {name}", f"ann show {name}"):
                self.assert_refused(desk, row, NO_NAME)
            for row in (f"ann place {name} Home", f"ann mark {name} A", f"ann unmark {name} a-b"):
                self.assert_refused(desk, row, NO_NAME)

    def test_what_is_no_word(self):
        desk = desk_with("ann put bob 5 Rent")
        for word in ("A", "a-b", "a" * 21, "(a)", "!", "a,"):
            for form in ("place", "mark", "unmark"):
                self.assert_refused(desk, f"ann {form} ann1 {word}", NO_WORD)


class RuleTest(DeskCase):

    def test_rules_one_behind_another(self):
        desk = Desk()
        self.assert_said(
            desk, ("ann rules", []), ("ann rule if word rent then place money", ["ok"]),
            ("ann rules", ["if word rent then place money"]),
            ("ann rule  if before  5 or(in a)then mark b,mark c ", ["ok"]),
            ("ann rules", ["if word rent then place money", "if (day 0 to 4 or in a) then mark b, mark c"]),
            ("bob rules", []), ("ann rule if any then stop", ["ok"]),
            ("ann rules", ["if word rent then place money", "if (day 0 to 4 or in a) then mark b, mark c",
                           "if any then stop"]),
            ("ann forget", ["ok"]), ("ann rules", []), ("ann forget", ["ok"]),
            ("ann rule if any then stop", ["ok"]), ("ann rules", ["if any then stop"]))

    def test_rules_are_put_behind_those_of_the_room(self):
        desk = Desk()
        desk.room("ann").rules("if any then mark a\n\n  if any then mark b")
        self.assert_said(
            desk, ("ann rules", ["if any then mark a", "if any then mark b"]), ("ann rule if any then mark c", ["ok"]),
            ("ann rules", ["if any then mark a", "if any then mark b", "if any then mark c"]))
        self.assertEqual(desk.room("ann").rules_written(), "if any then mark a\nif any then mark b\nif any then mark c")

    def test_a_rule_refused_leaves_the_rules(self):
        desk = desk_with("ann rule if any then mark a")
        for row in ("if", "if any", "if any then", "any", "then", "if any then mark", "if any then mark A", "rule",
                    "if word then mark a", "if any then mark a,", "if (any then stop", "if any then stop stop",
                    "if thread thread thread any then stop", "if " + "not " * 30 + "any then stop"):
            self.assert_refused(desk, f"ann rule {row}", NO_RULE)
        self.assert_said(desk, ("ann rules", ["if any then mark a"]), ("ann rule if any then mark b", ["ok"]),
                         ("ann rules", ["if any then mark a", "if any then mark b"]))

    def test_40_rules_of_the_deepest_conditions(self):
        desk = Desk()
        row = "if " + "not " * 14 + "(" * 14 + "any" + " and any)" * 14 + " and in a then stop"
        for k in range(40):
            self.assert_said(desk, (f"ann rule {row}", ["ok"]))
        self.assertEqual(len(desk.say("ann rules")), 40)
        self.assertEqual(len(set(desk.say("ann rules"))), 1)

    def test_forget_changes_no_letter(self):
        desk = desk_with("ann rule if any then place home", "ann put bob 5", "ann forget", "ann put bob 5")
        self.assert_said(desk, ("ann folders", ["home 1 1", "inbox 1 1"]))


class MeetTest(DeskCase):

    def test_meet(self):
        desk = desk_with("ann put x 1 Rent", "bob put y 2 re ann1", "bob place bob1 home")
        self.assert_said(
            desk, ("ann meet bob", ["ok"]), ("ann threads", ["ann1 bob1"]), ("bob threads", ["ann1 bob1"]),
            ("ann folders", ["home 1 1", "inbox 1 1"]), ("ann meet bob", ["ok"]), ("bob meet ann", ["ok"]))
        self.assertEqual(desk.room("ann").told(), desk.room("bob").told())

    def test_meet_with_itself(self):
        desk = desk_with("ann put x 1 Rent")
        before = state(desk)
        self.assert_said(desk, ("ann meet ann", ["ok"]), ("ann tell ann", ["0"]), ("cy meet cy", ["ok"]))
        self.assertEqual(state(desk), before)

    def test_meet_with_one_that_is_new(self):
        desk = desk_with("ann put x 1 Rent")
        self.assert_said(desk, ("ann meet bob", ["ok"]), ("bob folder inbox", ["ann1"]), ("cy meet ann", ["ok"]),
                         ("cy folder inbox", ["ann1"]))

    def test_tell(self):
        desk = desk_with("ann put x 1 Rent", "ann mark ann1 a", "bob put y 2")
        self.assert_said(
            desk, ("ann tell bob", ["2"]), ("ann tell bob", ["0"]), ("ann folder inbox", ["ann1"]),
            ("bob folder inbox", ["ann1", "bob1"]), ("bob tell ann", ["1"]), ("bob tell cy", ["3"]),
            ("ann place ann1 home", ["ok"]), ("ann tell cy", ["1"]), ("cy tell bob", ["1"]), ("bob tell ann", ["0"]),
            ("dan tell ann", ["0"]), ("cy folders", ["home 1 1", "inbox 1 1"]))

    def test_rules_are_not_told(self):
        desk = desk_with("ann rule if any then mark a", "ann meet bob", "ann tell cy")
        self.assert_said(desk, ("bob rules", []), ("cy rules", []), ("ann rules", ["if any then mark a"]))

    def test_what_the_room_refuses(self):
        desk = Desk()
        desk.room("ann").take([(9, "cy", 1, ("drop", "x"))])
        desk.room("bob").take([(1, "cy", 1, ("drop", "x")), (2, "cy", 2, ("drop", "y"))])
        for row in ("ann meet bob", "bob meet ann", "bob tell ann", "ann tell bob"):
            self.assert_refused(desk, row, ["refused: NoParcel"])


class AskTest(DeskCase):

    def desk(self):
        return desk_with(
            "ann put bob 7 Pay the rent", "ann put cy 3 re ann1 Re: rent", "ann put bob 12", "ann put dan 3 re gone1",
            "ann put dan 3 re gone1 Tea", "ann mark ann1 seen", "ann place ann1 home", "ann place ann2 home",
            "ann mark ann2 b", "ann mark ann2 a10", "ann mark ann2 a2")

    def test_folders(self):
        self.assert_said(
            self.desk(), ("ann folders", ["home 2 1", "inbox 3 3"]), ("bob folders", []),
            ("ann folder home", ["ann1", "ann2"]), ("ann folder inbox", ["ann3", "ann4", "ann5"]),
            ("ann folder none", []), ("ann folder Home", []), ("ann folder ann1", []), ("bob folder inbox", []))

    def test_threads(self):
        self.assert_said(
            self.desk(), ("ann thread ann1", ["ann1", "ann2"]), ("ann thread ann2", ["ann1", "ann2"]),
            ("ann thread ann3", ["ann3"]), ("ann thread ann5", ["ann4", "ann5"]),
            ("ann threads", ["ann1 ann2", "ann3", "ann4 ann5"]), ("bob threads", []), ("bob thread ann1", NO_NAME),
            ("ann thread gone1", NO_NAME))

    def test_find(self):
        self.assert_said(
            self.desk(), ("ann find any", ["ann2", "ann4", "ann5", "ann1", "ann3"]),
            ("ann find word rent", ["ann2", "ann1"]),
            ("ann find  not  answers  and(from bob)", ["ann1", "ann3"]), ("ann find thread marked seen", ["ann2"]),
            ("ann find in home or day 12", ["ann2", "ann1", "ann3"]), ("ann find word none", []), ("bob find any", []),
            ("ann find", NO_ROW), ("ann find word", NO_RULE), ("ann find all", NO_RULE), ("ann find any any", NO_RULE),
            ("bob find none", NO_RULE))

    def test_show(self):
        self.assert_said(
            self.desk(),
            ("ann show ann1", ["from bob", "day 0007", "title Pay the rent", "", "", "folder home", "marks seen"]),
            ("ann show ann2", ["from cy", "day 0003", "answers ann1", "title Re: rent", "", "", "folder home",
                               "marks a10 a2 b"]),
            ("ann show ann3", ["from bob", "day 0012", "title ", "", "", "folder inbox", "marks"]),
            ("bob show ann1", NO_NAME))

    def test_show_of_a_body(self):
        desk = Desk()
        for body, rows in (("one row", ["one row"]), ("two\nrows", ["two", "rows"]), ("\n", ["", ""]),
                           ("a\n\n", ["a", "", ""]), ("\tfolder x\nmarks  ", ["\tfolder x", "marks  "])):
            name = desk.room("ann").put("bob", "t", body, 9999, "x")
            self.assert_said(desk, (f"ann show {name}", [
                "from bob", "day 9999", "answers x", "title t", ""] + rows + ["folder inbox", "marks"]))

    def test_lists_told_may_be_changed(self):
        rows = ["ann folders", "ann folder home", "ann thread ann1", "ann threads", "ann find any", "ann show ann1",
                "ann rules", "ann folder none", "ann meet ann", "ann mark ann1 seen", "ann tell ann", "bob forget",
                "ann"]
        desk = self.desk()
        for row in rows:
            told = desk.say(row)
            again = list(told)
            spoil(told)
            self.assertEqual(desk.say(row), again, row)


class RoomsTest(DeskCase):

    def test_the_very_room_in_which_the_rows_are_done(self):
        desk = Desk()
        room = desk.room("ann")
        self.assertIsInstance(room, Room)
        self.assertEqual(room.hand, "ann")
        desk.say("ann put bob 5 Rent")
        self.assertEqual(room.names(), ["ann1"])
        room.put("bob", "Pay", "", 6)
        self.assert_said(desk, ("ann folder inbox", ["ann1", "ann2"]))
        self.assertIs(desk.room("ann"), room)
        desk.say("bob meet ann")
        self.assertIs(desk.room("ann"), room)
        other = desk.room("bob")
        self.assertEqual(other.told(), room.told())
        desk.say("cy tell bob")
        self.assertIs(desk.room("bob"), other)

    def test_a_room_for_each_hand(self):
        desk = Desk()
        rooms = [desk.room(hand) for hand in ("ann", "bob", "a", "abcdefgh")]
        for one, other in itertools.combinations(rooms, 2):
            self.assertIsNot(one, other)
        self.assertEqual([room.hand for room in rooms], ["ann", "bob", "a", "abcdefgh"])

    def test_what_is_no_hand(self):
        desk = Desk()
        for hand in NO_HANDS + ["", " ", "ann bob"] + NO_NAMES + [1.5, (), ("ann",), b"ann"]:
            assert_refused(self, NoName, desk.room, hand)

    def test_a_room_is_made_for_a_hand_named_first_where_the_row_is_refused(self):
        desk = Desk()
        for row, answer in (("ann show ann1", NO_NAME), ("bob put B 5", NO_LETTER), ("cy rule x", NO_RULE)):
            self.assert_refused(desk, row, answer)
        for hand in ("ann", "bob", "cy"):
            self.assertEqual(desk.room(hand).told(), [])

    def test_two_desks_have_nothing_in_common(self):
        one, other = Desk(), Desk()
        one.say("ann put bob 5 Rent")
        one.say("ann rule if any then stop")
        self.assert_said(other, ("ann folders", []), ("ann rules", []), ("ann put x 1", ["ann1"]))
        shown = ["from bob", "day 0005", "title Rent", "", "", "folder inbox", "marks"]
        self.assert_said(one, ("ann show ann1", shown))
        self.assertIsNot(one.room("ann"), other.room("ann"))


class ChanceTest(DeskCase):
    """A desk, and rooms beside it in which the same is done by hand."""

    def sorted_row(self, chance, rooms):
        """A row, and what is to be answered, from a room beside the desk."""
        hand, other = chance.choice(list(rooms)), chance.choice(list(rooms))
        room = rooms[hand]
        name = chance.choice(room.names() + ["ann1", "bob1"])
        word = chance.choice(["home", "work", "seen", "a"])
        there = name in room.names()
        kind = chance.choice(["put", "put", "put", "place", "mark", "unmark", "drop", "sort", "meet", "tell", "show",
                              "folders", "folder", "thread", "threads", "find"])
        if kind == "put":
            title, answers = chance.choice(["Rent", "Pay the rent", ""]), chance.choice(["", "", name])
            row = f"{hand} put bob 7 " + (f"re {answers} " if answers else "") + title
            return row, lambda: [room.put("bob", title, "", 7, answers)]
        if kind == "meet":
            return f"{hand} meet {other}", lambda: meet(room, rooms[other]) or ["ok"]
        if kind == "tell":
            return f"{hand} tell {other}", lambda: [str(rooms[other].take(room.told()))]
        if kind in ("folders", "threads", "find", "folder"):
            return {
                "folders": (f"{hand} folders", lambda: [" ".join(map(str, row)) for row in room.folders()]),
                "threads": (f"{hand} threads", lambda: [" ".join(row) for row in room.threads()]),
                "find": (f"{hand} find thread marked seen or in {word}",
                         lambda: room.find(f"thread marked seen or in {word}")),
                "folder": (f"{hand} folder {word}", lambda: room.names_in(word)),
            }[kind]
        worded = f" {word}" if kind in ("place", "mark", "unmark") else ""
        return f"{hand} {kind} {name}{worded}", lambda: self.deed(room, kind, name, word) if there else NO_NAME

    def deed(self, room, kind, name, word):
        if kind == "thread":
            return room.thread(name)
        if kind == "show":
            marks = "".join(" " + mark for mark in room.marks(name))
            return letter_text(room.letter_at(name)).split("\n") + [f"folder {room.folder(name)}", "marks" + marks]
        {
            "place": lambda: room.place(name, word), "mark": lambda: room.mark(name, word),
            "unmark": lambda: room.mark(name, word, False), "drop": lambda: room.drop(name),
            "sort": lambda: room.sort_anew(name),
        }[kind]()
        return ["ok"]

    def test_rows_by_chance(self):
        chance = random.Random(71)
        for again in range(10):
            desk, rooms = Desk(), {hand: Room(hand) for hand in ("ann", "bob", "cy")}
            desk.say("ann rule if word rent then place money, mark seen")
            rooms["ann"].rules("if word rent then place money, mark seen")
            for step in range(120):
                row, answer = self.sorted_row(chance, rooms)
                self.assertEqual(desk.say(row), answer(), row)
            for hand, room in rooms.items():
                self.assertEqual(desk.room(hand).told(), room.told())
                assert_tells(self, desk.room(hand), room.told())


if __name__ == "__main__":
    unittest.main()
