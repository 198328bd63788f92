"""The desk: rows of words, each done in the room of the hand that it names."""

from mailroom.deeds import is_hand
from mailroom.errors import MailError, NoRow, NoRule
from mailroom.letters import DAY_FIGURES, letter_text
from mailroom.rooms import Room, meet
from mailroom.words import FIGURES, all_among, is_word

# How many parts, at least and at most (None: any number), stand behind the hand and the word of each form.
FORMS = {
    "put": (2, None), "place": (2, 2), "mark": (2, 2), "unmark": (2, 2), "drop": (1, 1), "sort": (1, 1),
    "rule": (1, None), "rules": (0, 0), "forget": (0, 0), "meet": (1, 1), "tell": (1, 1), "folders": (0, 0),
    "folder": (1, 1), "thread": (1, 1), "threads": (0, 0), "find": (1, None), "show": (1, 1),
}
DOING = ("place", "mark", "unmark", "drop", "sort", "rule", "forget")
MEETING = ("meet", "tell")


def check_form(form, given):
    if form not in FORMS:
        raise NoRow("no form of a row")
    least = FORMS[form][0]
    most = FORMS[form][1]
    if len(given) < least or (most is not None and len(given) > most):
        raise NoRow("a part lacks, or is too many")
    if form == "put" and not (len(given[1]) <= DAY_FIGURES and all_among(given[1], FIGURES)):
        raise NoRow("the day is not told by one to four figures")
    if form in MEETING and not is_hand(given[0]):
        raise NoRow("the other is no hand")


def put_letter(room, given):
    answers = ""
    title = given[2:]
    if len(title) > 1 and title[0] == "re" and is_word(title[1]):
        answers = title[1]
        title = title[2:]
    return room.put(given[0], " ".join(title), "", int(given[1]), answers)


def add_rule(room, row):
    # A line feed parts nothing in a row, so the row is one rule or none; in a room's rules it would part two.
    if "\n" in row:
        raise NoRule("a line feed within a rule")
    room.rules(room.rules_written() + "\n" + row)


def do_in(room, form, given):
    if form == "place":
        room.place(given[0], given[1])
    elif form == "mark":
        room.mark(given[0], given[1])
    elif form == "unmark":
        room.mark(given[0], given[1], False)
    elif form == "drop":
        room.drop(given[0])
    elif form == "sort":
        room.sort_anew(given[0])
    elif form == "rule":
        add_rule(room, " ".join(given))
    else:
        room.rules("")


def rules_rows(room):
    written = room.rules_written()
    # No rules are the text without signs, and that would be parted to one row.
    return written.split("\n") if written != "" else []


def folder_row(folder, whole, unseen):
    return f"{folder} {whole} {unseen}"


def letter_rows(card):
    return letter_text(card.letter).split("\n") + ["folder " + card.box, " ".join(["marks"] + card.signs)]


def asked_of(room, form, given):
    if form == "rules":
        return rules_rows(room)
    if form == "folders":
        return [folder_row(folder, whole, unseen) for folder, whole, unseen in room.folders()]
    if form == "folder":
        return room.names_in(given[0])
    if form == "thread":
        return room.thread(given[0])
    if form == "threads":
        return [" ".join(thread) for thread in room.threads()]
    if form == "find":
        return room.find(" ".join(given))
    return letter_rows(room.card(given[0]))


class Desk:

    def __init__(self):
        self.rooms = {}

    def room(self, hand):
        if hand not in self.rooms:
            self.rooms[hand] = Room(hand)
        return self.rooms[hand]

    def answered(self, parts):
        if len(parts) < 2 or not is_hand(parts[0]):
            raise NoRow("a row begins with a hand and a word")
        form = parts[1]
        given = parts[2:]
        check_form(form, given)
        room = self.room(parts[0])
        if form == "put":
            return [put_letter(room, given)]
        if form == "meet":
            meet(room, self.room(given[0]))
            return ["ok"]
        if form == "tell":
            return [str(self.room(given[0]).take(room.told()))]
        if form in DOING:
            do_in(room, form, given)
            return ["ok"]
        return asked_of(room, form, given)

    def say(self, row):
        # Parted at blanks alone: a tab or a line feed stays in its part.
        parts = [part for part in row.split(" ") if part != ""]
        try:
            return self.answered(parts)
        except MailError as error:
            return ["refused: " + error.refusal()]
