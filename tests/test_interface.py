import inspect
import unittest

from mailroom import cards, letters, words

ARGUMENTS = [
    (words.is_word, "(thing)"),
    (words.words_of, "(text)"),
    (words.each_once, "(row)"),
    (letters.Letter, "(sender, title, body, day, answers='')"),
    (letters.Letter.parts, "(self)"),
    (letters.Letter.words, "(self)"),
    (letters.Letter.title_words, "(self)"),
    (letters.letter_of, "(thing)"),
    (letters.letter_text, "(letter)"),
    (letters.read_letter, "(text)"),
    (cards.Card, "(letter, folder='inbox', marks=None)"),
    (cards.Card.placed, "(self, folder)"),
    (cards.Card.signed, "(self, word)"),
    (cards.Card.unsigned, "(self, word)"),
]


class InterfaceTest(unittest.TestCase):

    def test_the_arguments_are_those_of_the_document(self):
        for thing, wanted in ARGUMENTS:
            with self.subTest(thing.__qualname__):
                self.assertEqual(str(inspect.signature(thing)), wanted)


if __name__ == "__main__":
    unittest.main()
