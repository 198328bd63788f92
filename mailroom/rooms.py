"""Rooms: where one hand puts letters, places, marks, drops and sorts them, and takes what other hands did."""

from mailroom.boards import Board
from mailroom.cards import Card
from mailroom.errors import NoWord
from mailroom.ledgers import Ledger
from mailroom.letters import Letter
from mailroom.names import check_there
from mailroom.reading import read_condition, read_rules
from mailroom.rules import Rules
from mailroom.words import is_word


class Room:

    def __init__(self, hand):
        self.ledger = Ledger(hand)
        self.hand = hand
        self.board = Board()
        self.ruling = Rules([])

    def do(self, deed):
        self.board.show(self.ledger.do(deed))

    # The other letters of its thread; a letter that was dropped ahead of its put is there in no thread.
    def others(self, name):
        if name not in self.board.letters:
            return []
        return [self.board.card(other) for other in self.thread(name) if other != name]

    # All deeds come behind the running of the rules, so that none of them is asked for in it.
    def sort_card(self, name, card):
        outcome = self.ruling.outcome(card, self.others(name))
        folder = outcome[0]
        marks = outcome[1]
        if folder != card.box:
            self.do(("place", name, folder))
        for word in marks:
            if word not in card.signs:
                self.do(("mark", name, word, True))
        for word in card.signs:
            if word not in marks:
                self.do(("mark", name, word, False))

    def put(self, sender, title, body, day, answers=""):
        letter = Letter(sender, title, body, day, answers)
        name = self.ledger.next_name()
        self.do(("put", name, letter.parts()))
        self.sort_card(name, Card(letter))
        return name

    def check_word(self, name, word):
        check_there(name, self.board.letters)
        if not is_word(word):
            raise NoWord("a folder and a mark are words")

    def place(self, name, folder):
        self.check_word(name, folder)
        self.do(("place", name, folder))

    def mark(self, name, word, on=True):
        self.check_word(name, word)
        self.do(("mark", name, word, on))

    def drop(self, name):
        check_there(name, self.board.letters)
        self.do(("drop", name))

    def sort_anew(self, name):
        self.sort_card(name, self.card(name))

    def rules(self, text):
        self.ruling = read_rules(text)

    def rules_written(self):
        return self.ruling.written()

    def names(self):
        return self.board.names()

    def letter_at(self, name):
        return self.board.letter_at(name)

    def card(self, name):
        return self.board.card(name)

    def folder(self, name):
        return self.board.boxed.folder(name)

    def marks(self, name):
        return self.board.boxed.marks(name)

    def thread(self, name):
        return self.board.hung.thread(name)

    def threads(self):
        return self.board.hung.threads()

    def counts(self, folder):
        return self.board.boxed.counts(folder)

    def folders(self):
        return self.board.boxed.folders()

    def marked(self, folder, word):
        return self.board.boxed.marked(folder, word)

    def names_in(self, folder):
        return self.board.boxed.names(folder)

    def having(self, word):
        return self.board.listed.having(word)

    def find(self, text):
        condition = read_condition(text)
        found = []
        for thread in self.threads():
            cards = [self.card(name) for name in thread]
            for name, card, truth in zip(thread, cards, condition.truths(cards)):
                if truth:
                    found.append((card.letter.day, name))
        return [name for day, name in sorted(found)]

    def have(self):
        return self.ledger.have()

    def told(self, have=None):
        return self.ledger.told(have)

    def take(self, parcel):
        fresh = self.ledger.take(parcel)
        for stamped in fresh:
            self.board.show(stamped)
        return len(fresh)


def meet(one, other):
    for_one = other.told(one.have())
    for_other = one.told(other.have())
    # Where the other would refuse its parcel, one is not to take its own either.
    other.ledger.weighed(for_other)
    one.take(for_one)
    other.take(for_other)
