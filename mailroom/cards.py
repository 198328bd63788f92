"""Cards: letters with a folder and marks."""


class Card:

    def __init__(self, letter, folder="inbox", marks=None):
        # A letter of the card's own: the one that is handed in stays its owner's.
        self.letter = letter.twin()
        self.box = folder
        self.signs = [] if marks is None else sorted(set(marks))

    def placed(self, folder):
        return Card(self.letter, folder, self.signs)

    def signed(self, word):
        return Card(self.letter, self.box, self.signs + [word])

    def unsigned(self, word):
        return Card(self.letter, self.box, [sign for sign in self.signs if sign != word])
