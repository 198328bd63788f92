import inspect
import unittest

from mailroom import cards, conditions, letters, reading, rules, threads, words

ARGUMENTS = [
    (words.is_word, "(thing)"),
    (words.words_of, "(text)"),
    (words.each_once, "(row)"),
    (letters.Letter, "(sender, title, body, day, answers='')"),
    (letters.Letter.parts, "(self)"),
    (letters.Letter.words, "(self)"),
    (letters.Letter.title_words, "(self)"),
    (letters.letter_of, "(thing)"),
    (letters.letter_text, "(letter)"),
    (letters.read_letter, "(text)"),
    (cards.Card, "(letter, folder='inbox', marks=None)"),
    (cards.Card.placed, "(self, folder)"),
    (cards.Card.signed, "(self, word)"),
    (cards.Card.unsigned, "(self, word)"),
    (conditions.Condition.holds, "(self, card, others)"),
    (conditions.Condition.tree, "(self)"),
    (conditions.Condition.written, "(self)"),
    (conditions.condition_of, "(tree)"),
    (reading.read_condition, "(text)"),
    (reading.read_rules, "(text)"),
    (rules.Rules, "(rows)"),
    (rules.Rules.rows, "(self)"),
    (rules.Rules.outcome, "(self, card, others)"),
    (rules.Rules.met, "(self, card, others)"),
    (rules.Rules.written, "(self)"),
    (threads.Threads, "()"),
    (threads.Threads.add, "(self, name, answers='')"),
    (threads.Threads.take_out, "(self, name)"),
    (threads.Threads.names, "(self)"),
    (threads.Threads.thread, "(self, name)"),
    (threads.Threads.answers_to, "(self, name)"),
    (threads.Threads.threads, "(self)"),
    (threads.Threads.depth, "(self, name)"),
]
TREES = [
    ("any",), ("word", "a"), ("title", "a"), ("from", "a"), ("day", 1, 2), ("in", "a"), ("marked", "a"), ("answers",),
    ("not", ("any",)), ("both", ("any",), ("any",)), ("either", ("any",), ("any",)), ("thread", ("any",)),
]


class InterfaceTest(unittest.TestCase):

    def test_the_arguments_are_those_of_the_document(self):
        for thing, wanted in ARGUMENTS:
            with self.subTest(thing.__qualname__):
                self.assertEqual(str(inspect.signature(thing)), wanted)

    def test_the_arguments_of_each_form_of_a_condition(self):
        for tree in TREES:
            with self.subTest(tree):
                condition = conditions.condition_of(tree)
                self.assertEqual(str(inspect.signature(condition.holds)), "(card, others)")
                self.assertEqual(str(inspect.signature(condition.tree)), "()")
                self.assertEqual(str(inspect.signature(condition.written)), "()")


if __name__ == "__main__":
    unittest.main()
