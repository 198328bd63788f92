"""Deeds, and the stamps that tell which of them is the greater."""

from mailroom.errors import NoLetter
from mailroom.letters import is_whole, letter_of
from mailroom.words import all_among, is_word

HAND_SIGNS = "abcdefghijklmnopqrstuvwxyz"
MOST_HAND = 8


def is_hand(thing):
    return isinstance(thing, str) and 1 <= len(thing) <= MOST_HAND and all_among(thing, HAND_SIGNS)


def are_parts(thing):
    try:
        letter_of(thing)
    except NoLetter:
        return False
    return True


def is_deed(thing):
    # A first thing that is no text might still say that it equals one.
    if not isinstance(thing, tuple) or len(thing) < 2 or not isinstance(thing[0], str) or not is_word(thing[1]):
        return False
    form = (thing[0], len(thing))
    if form == ("put", 3):
        return are_parts(thing[2])
    if form == ("place", 3):
        return is_word(thing[2])
    if form == ("mark", 4):
        return is_word(thing[2]) and isinstance(thing[3], bool)
    return form == ("drop", 2)


def is_counted(thing):
    return is_whole(thing) and thing >= 1


def is_stamped(thing):
    if not isinstance(thing, tuple) or len(thing) != 4:
        return False
    return is_counted(thing[0]) and is_hand(thing[1]) and is_counted(thing[2]) and is_deed(thing[3])


def stamp_of(stamped):
    return (stamped[0], stamped[1])
