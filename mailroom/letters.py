"""Letters, their parts, and their texts."""

from mailroom.errors import NoLetter
from mailroom.words import FIGURES, all_among, is_word, words_of

MOST_TITLE = 60
MOST_BODY = 400
LAST_DAY = 9999
DAY_FIGURES = 4

FROM = "from "
DAY = "day "
ANSWERS = "answers "
TITLE = "title "
# No row above the body is without signs, so the first of these stands ahead of the body.
GAP = "\n\n"


def is_text(thing, most):
    return isinstance(thing, str) and len(thing) <= most


def is_whole(thing):
    return isinstance(thing, int) and not isinstance(thing, bool)


def is_answered(thing):
    return is_word(thing) or (isinstance(thing, str) and thing == "")


def check_parts(sender, title, body, day, answers):
    if not is_word(sender):
        raise NoLetter("the sender is no word")
    if not is_text(title, MOST_TITLE) or "\n" in title:
        raise NoLetter("the title is no text of one row, or is too long")
    if not is_text(body, MOST_BODY):
        raise NoLetter("the body is no text, or is too long")
    if not is_whole(day) or not 0 <= day <= LAST_DAY:
        raise NoLetter("the day is no whole number, or out of bounds")
    if not is_answered(answers):
        raise NoLetter("what it answers is no word")


class Letter:

    def __init__(self, sender, title, body, day, answers=""):
        check_parts(sender, title, body, day, answers)
        self.sender = sender
        self.title = title
        self.body = body
        self.day = day
        self.answers = answers
        # The words, once they have been looked for: conditions ask for them again and again.
        self.found = None

    # A letter of the same parts, which need not look for its words anew.
    def twin(self):
        twin = Letter(self.sender, self.title, self.body, self.day, self.answers)
        twin.found = self.found
        return twin

    def parts(self):
        return (self.sender, self.title, self.body, self.day, self.answers)

    # The words as keys, in their order, each with whether it is one of the title's.
    def known(self):
        if self.found is None:
            found = {}
            for word in words_of(self.title):
                found[word] = True
            # A word never goes on from the title into the body, so each is parted by itself.
            for word in words_of(self.body):
                found.setdefault(word, False)
            self.found = found
        return self.found

    def words(self):
        return list(self.known())

    def title_words(self):
        known = self.known()
        return [word for word in known if known[word]]


def letter_of(thing):
    if not isinstance(thing, tuple) or len(thing) != 5:
        raise NoLetter("a letter has five parts")
    return Letter(thing[0], thing[1], thing[2], thing[3], thing[4])


def letter_text(letter):
    rows = [FROM + letter.sender, DAY + str(letter.day).zfill(DAY_FIGURES)]
    if letter.answers != "":
        rows.append(ANSWERS + letter.answers)
    rows.append(TITLE + letter.title)
    return "\n".join(rows) + GAP + letter.body


def read_day(figures):
    if len(figures) != DAY_FIGURES or not all_among(figures, FIGURES):
        raise NoLetter("the day is not told by four figures")
    return int(figures)


# The rows are cut by their lengths alone: whether they begin as they should is read_letter's to see.
def cut_letter(rows, body):
    if len(rows) != 3 and len(rows) != 4:
        raise NoLetter("a letter's text has three or four rows above its body")
    sender = rows[0][len(FROM):]
    day = read_day(rows[1][len(DAY):])
    answers = rows[2][len(ANSWERS):] if len(rows) == 4 else ""
    title = rows[-1][len(TITLE):]
    return Letter(sender, title, body, day, answers)


def read_letter(text):
    if not isinstance(text, str):
        raise NoLetter("a letter is read of a text")
    place = text.find(GAP)
    if place < 0:
        raise NoLetter("no row without signs parts the body from the rows above it")
    letter = cut_letter(text[:place].split("\n"), text[place + len(GAP):])
    if letter_text(letter) != text:
        raise NoLetter("the rows are not those of a letter's text")
    return letter
