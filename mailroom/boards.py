"""Boards: what stamped deeds say, whatever the order in which they are shown."""

from mailroom.cards import Card
from mailroom.deeds import stamp_of
from mailroom.folders import Folders
from mailroom.index import Index
from mailroom.letters import letter_of
from mailroom.names import check_there
from mailroom.registers import Registers
from mailroom.threads import Threads


# Deeds of which only the one with the greatest stamp counts have one key; the name comes first in it, so that all
# that was said of a name ahead of its put is found when the put comes.
def key_of(deed):
    if deed[0] == "mark":
        return (deed[1], "mark", deed[2])
    return (deed[1], deed[0])


class Board:

    def __init__(self):
        self.facts = Registers()
        self.letters = {}
        self.hung = Threads()
        self.listed = Index()
        self.boxed = Folders()

    def show(self, stamped):
        deed = stamped[3]
        # A deed's last part is what it says of its key: parts, a folder, a truth. Of a drop it is enough that it came.
        if not self.facts.keep(key_of(deed), stamp_of(stamped), deed[-1]):
            return
        if deed[0] == "put":
            self.bring_in(deed[1])
        elif deed[1] in self.letters:
            self.change(deed)

    # Of a name that was dropped, ahead of its put or behind it, no letter is there.
    def bring_in(self, name):
        if name in self.letters:
            self.take_out(name)
        if self.facts.get((name, "drop")) is not None:
            return
        letter = letter_of(self.facts.get((name, "put")))
        self.letters[name] = letter
        self.hung.add(name, letter.answers)
        self.listed.add(name, letter.words())
        self.boxed.add(name, self.facts.get((name, "place"), "inbox"), self.marks_told(name))

    def marks_told(self, name):
        return [key[2] for key in self.facts.keys_of(name) if key[1] == "mark" and self.facts.get(key)]

    def take_out(self, name):
        self.letters.pop(name)
        self.hung.take_out(name)
        self.listed.take_out(name)
        self.boxed.take_out(name)

    def change(self, deed):
        name = deed[1]
        if deed[0] == "drop":
            self.take_out(name)
        elif deed[0] == "place":
            self.boxed.place(name, deed[2])
        elif deed[3]:
            self.boxed.mark(name, deed[2])
        else:
            self.boxed.unmark(name, deed[2])

    def names(self):
        return self.hung.names()

    def letter_at(self, name):
        check_there(name, self.letters)
        return self.letters[name].twin()

    def card(self, name):
        check_there(name, self.letters)
        return Card(self.letters[name], self.boxed.folder(name), self.boxed.marks(name))
