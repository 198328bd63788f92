"""Reading: conditions and rules of the texts that tell them."""

from mailroom.conditions import condition_of
from mailroom.errors import NoRule
from mailroom.letters import DAY_FIGURES, LAST_DAY
from mailroom.rules import Rules
from mailroom.words import FIGURES, all_among, is_word

MOST_DEEP = 30
MOST_WITHIN = 40
MOST_THREADS = 2

BARE = ("any", "answers")
WORDED = ("word", "title", "from", "in", "marked")
OPENING = ("(", "not", "thread")
WORDED_ACTS = ("place", "mark", "unmark")
# No piece of a text is without signs, so this tells that none is left.
END = ""


def pieces_of(text):
    for sign in ("(", ")", ","):
        text = text.replace(sign, " " + sign + " ")
    # Parted at blanks alone: a tab or a line feed belongs to its piece, and makes it a wrong one.
    return [piece for piece in text.split(" ") if piece != ""]


def deep(tree):
    return 1 + max([deep(part) for part in tree[1:] if isinstance(part, tuple)], default=0)


# Reads the pieces of one row, or of a condition that is read alone (its row is 0), from the first to the last.
class Reader:

    def __init__(self, text, row):
        self.pieces = pieces_of(text)
        self.at = 0
        self.row = row

    def ahead(self):
        return self.pieces[self.at] if self.at < len(self.pieces) else END

    def step(self):
        piece = self.ahead()
        self.at += 1
        return piece

    def passes(self, wanted):
        if self.ahead() != wanted:
            return False
        self.at += 1
        return True

    def expect(self, wanted):
        if not self.passes(wanted):
            piece = self.ahead()
            raise NoRule(f"{wanted!r} is wanted, not {piece!r}", self.row)

    def read_word(self):
        piece = self.step()
        if not is_word(piece):
            raise NoRule(f"{piece!r} is no word", self.row)
        return piece

    def read_number(self, least, most):
        piece = self.step()
        if not 1 <= len(piece) <= DAY_FIGURES or not all_among(piece, FIGURES):
            raise NoRule(f"{piece!r} is no number", self.row)
        number = int(piece)
        if not least <= number <= most:
            raise NoRule(f"{number} is out of bounds", self.row)
        return number

    def read_leaf(self, kind):
        if kind in BARE:
            return (kind,)
        if kind in WORDED:
            return (kind, self.read_word())
        if kind == "day":
            first = self.read_number(0, LAST_DAY)
            last = self.read_number(0, LAST_DAY) if self.passes("to") else first
            return ("day", first, last)
        if kind == "before":
            return ("day", 0, self.read_number(1, LAST_DAY) - 1)
        if kind == "after":
            return ("day", self.read_number(0, LAST_DAY - 1) + 1, LAST_DAY)
        raise NoRule(f"{kind!r} begins no condition", self.row)

    # A tree that is too deep is refused where it becomes so: a long chain is never walked down its whole length.
    def checked(self, tree):
        if deep(tree) > MOST_DEEP:
            raise NoRule("the condition is too deep", self.row)
        return tree

    # How many brackets, not and thread stand around, and how many thread among them, is counted on the way down,
    # so that a text which opens too many is refused ahead of the calls that would read them.
    def read_single(self, within, threads):
        opening = self.step()
        if opening not in OPENING:
            return self.read_leaf(opening)
        within += 1
        threads += 1 if opening == "thread" else 0
        if within > MOST_WITHIN or threads > MOST_THREADS:
            raise NoRule("too many stand within one another", self.row)
        if opening != "(":
            return self.checked((opening, self.read_single(within, threads)))
        tree = self.read_either(within, threads)
        self.expect(")")
        return tree

    def read_both(self, within, threads):
        tree = self.read_single(within, threads)
        while self.passes("and"):
            tree = self.checked(("both", tree, self.read_single(within, threads)))
        return tree

    def read_either(self, within, threads):
        tree = self.read_both(within, threads)
        while self.passes("or"):
            tree = self.checked(("either", tree, self.read_both(within, threads)))
        return tree

    def read_whole(self):
        return condition_of(self.read_either(0, 0))

    def read_act(self):
        kind = self.step()
        if kind == "stop":
            return ("stop",)
        if kind in WORDED_ACTS:
            return (kind, self.read_word())
        raise NoRule(f"{kind!r} begins no act", self.row)


def read_condition(text):
    reader = Reader(text, 0)
    condition = reader.read_whole()
    reader.expect(END)
    return condition


def read_row(text, row):
    reader = Reader(text, row)
    reader.expect("if")
    condition = reader.read_whole()
    reader.expect("then")
    acts = [reader.read_act()]
    while reader.passes(","):
        acts.append(reader.read_act())
    reader.expect(END)
    return (condition, acts)


def read_rules(text):
    rows = []
    for row, row_text in enumerate(text.split("\n"), start=1):
        if row_text.strip(" ") != "":
            rows.append(read_row(row_text, row))
    return Rules(rows)
