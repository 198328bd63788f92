import inspect
import unittest

from mailroom import boards, cards, conditions, deeds, desk, folders, index, ledgers, letters, reading, registers
from mailroom import rooms, rules, threads, words

ARGUMENTS = [
    (words.is_word, "(thing)"),
    (words.words_of, "(text)"),
    (words.each_once, "(row)"),
    (letters.Letter, "(sender, title, body, day, answers='')"),
    (letters.Letter.parts, "(self)"),
    (letters.Letter.words, "(self)"),
    (letters.Letter.title_words, "(self)"),
    (letters.letter_of, "(thing)"),
    (letters.letter_text, "(letter)"),
    (letters.read_letter, "(text)"),
    (cards.Card, "(letter, folder='inbox', marks=None)"),
    (cards.Card.placed, "(self, folder)"),
    (cards.Card.signed, "(self, word)"),
    (cards.Card.unsigned, "(self, word)"),
    (conditions.Condition.holds, "(self, card, others)"),
    (conditions.Condition.tree, "(self)"),
    (conditions.Condition.written, "(self)"),
    (conditions.condition_of, "(tree)"),
    (reading.read_condition, "(text)"),
    (reading.read_rules, "(text)"),
    (rules.Rules, "(rows)"),
    (rules.Rules.rows, "(self)"),
    (rules.Rules.outcome, "(self, card, others)"),
    (rules.Rules.met, "(self, card, others)"),
    (rules.Rules.written, "(self)"),
    (threads.Threads, "()"),
    (threads.Threads.add, "(self, name, answers='')"),
    (threads.Threads.take_out, "(self, name)"),
    (threads.Threads.names, "(self)"),
    (threads.Threads.thread, "(self, name)"),
    (threads.Threads.answers_to, "(self, name)"),
    (threads.Threads.threads, "(self)"),
    (threads.Threads.depth, "(self, name)"),
    (index.Index, "()"),
    (index.Index.add, "(self, name, words)"),
    (index.Index.take_out, "(self, name)"),
    (index.Index.having, "(self, word)"),
    (index.Index.words, "(self, name)"),
    (index.Index.all_words, "(self)"),
    (folders.Folders, "()"),
    (folders.Folders.add, "(self, name, folder='inbox', marks=None)"),
    (folders.Folders.take_out, "(self, name)"),
    (folders.Folders.place, "(self, name, folder)"),
    (folders.Folders.mark, "(self, name, word)"),
    (folders.Folders.unmark, "(self, name, word)"),
    (folders.Folders.folder, "(self, name)"),
    (folders.Folders.marks, "(self, name)"),
    (folders.Folders.counts, "(self, folder)"),
    (folders.Folders.marked, "(self, folder, word)"),
    (folders.Folders.names, "(self, folder)"),
    (folders.Folders.folders, "(self)"),
    (deeds.is_deed, "(thing)"),
    (deeds.is_stamped, "(thing)"),
    (deeds.stamp_of, "(stamped)"),
    (deeds.is_hand, "(thing)"),
    (ledgers.Ledger, "(hand)"),
    (ledgers.Ledger.do, "(self, deed)"),
    (ledgers.Ledger.have, "(self)"),
    (ledgers.Ledger.told, "(self, have=None)"),
    (ledgers.Ledger.take, "(self, parcel)"),
    (registers.Registers, "()"),
    (registers.Registers.keep, "(self, key, stamp, value)"),
    (registers.Registers.get, "(self, key, default=None)"),
    (registers.Registers.keys_of, "(self, first)"),
    (boards.Board, "()"),
    (boards.Board.show, "(self, stamped)"),
    (boards.Board.names, "(self)"),
    (boards.Board.letter_at, "(self, name)"),
    (boards.Board.card, "(self, name)"),
    (rooms.Room, "(hand)"),
    (rooms.Room.put, "(self, sender, title, body, day, answers='')"),
    (rooms.Room.place, "(self, name, folder)"),
    (rooms.Room.mark, "(self, name, word, on=True)"),
    (rooms.Room.drop, "(self, name)"),
    (rooms.Room.sort_anew, "(self, name)"),
    (rooms.Room.rules, "(self, text)"),
    (rooms.Room.rules_written, "(self)"),
    (rooms.Room.names, "(self)"),
    (rooms.Room.letter_at, "(self, name)"),
    (rooms.Room.folder, "(self, name)"),
    (rooms.Room.marks, "(self, name)"),
    (rooms.Room.card, "(self, name)"),
    (rooms.Room.thread, "(self, name)"),
    (rooms.Room.threads, "(self)"),
    (rooms.Room.counts, "(self, folder)"),
    (rooms.Room.folders, "(self)"),
    (rooms.Room.marked, "(self, folder, word)"),
    (rooms.Room.names_in, "(self, folder)"),
    (rooms.Room.having, "(self, word)"),
    (rooms.Room.find, "(self, text)"),
    (rooms.Room.have, "(self)"),
    (rooms.Room.told, "(self, have=None)"),
    (rooms.Room.take, "(self, parcel)"),
    (rooms.meet, "(one, other)"),
    (desk.Desk, "()"),
    (desk.Desk.say, "(self, row)"),
    (desk.Desk.room, "(self, hand)"),
]
TREES = [
    ("any",), ("word", "a"), ("title", "a"), ("from", "a"), ("day", 1, 2), ("in", "a"), ("marked", "a"), ("answers",),
    ("not", ("any",)), ("both", ("any",), ("any",)), ("either", ("any",), ("any",)), ("thread", ("any",)),
]


class InterfaceTest(unittest.TestCase):

    def test_the_arguments_are_those_of_the_document(self):
        for thing, wanted in ARGUMENTS:
            with self.subTest(thing.__qualname__):
                self.assertEqual(str(inspect.signature(thing)), wanted)

    def test_the_arguments_of_each_form_of_a_condition(self):
        for tree in TREES:
            with self.subTest(tree):
                condition = conditions.condition_of(tree)
                self.assertEqual(str(inspect.signature(condition.holds)), "(card, others)")
                self.assertEqual(str(inspect.signature(condition.tree)), "()")
                self.assertEqual(str(inspect.signature(condition.written)), "()")


if __name__ == "__main__":
    unittest.main()
