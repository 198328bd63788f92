"""Words, and the words of a text."""

FIGURES = "0123456789"
WORD_SIGNS = "abcdefghijklmnopqrstuvwxyz0123456789"
RUN_SIGNS = "abcdefghijklmnopqrstuvwxyzABCDEFGHIJKLMNOPQRSTUVWXYZ0123456789"
MOST_WORD = 20


def all_among(text, signs):
    return all([sign in signs for sign in text])


def is_word(thing):
    return isinstance(thing, str) and 1 <= len(thing) <= MOST_WORD and all_among(thing, WORD_SIGNS)


def words_of(text):
    # Every sign that parts words becomes a blank, so that parting at blanks leaves the runs.
    signs = [sign.lower() if sign in RUN_SIGNS else " " for sign in text]
    return "".join(signs).split()


def each_once(row):
    # A dict keeps its keys in the order in which they came first.
    met = {}
    for text in row:
        met[text] = True
    return list(met)
