"""What several tests need."""

import contextlib
import inspect
import re
import sys

from mailroom.cards import Card
from mailroom.errors import NoName
from mailroom.letters import Letter

# Things of every kind that are no text; truths and numbers among them.
NO_TEXTS = [
    None, True, False, 0, 1, -1, 12, 1.5, b"", b"a", [], ["a"], ["a", "b"], (), ("a",), ("a", "b"),
    {}, {"a": "b"}, {"a"}, object(), str, len,
]


class LikeAll:
    """A thing that says of everything that it is equal to it."""

    def __eq__(self, other):
        return True

    def __ne__(self, other):
        return False

    def __len__(self):
        return 1

    def __iter__(self):
        return iter("a")

    def __contains__(self, sign):
        return False


NO_TEXTS.append(LikeAll())

# As names these are never there.
NO_NAMES = [None, 0, 1, -1, 12, 10 ** 5000, True, False]


def assert_refused(case, error, ask, *given):
    """Refused by that very class."""
    with case.assertRaises(error) as caught:
        ask(*given)
    case.assertIs(type(caught.exception), error)


def spoil(told):
    """Changes all that a list or dict holds, and adds to it, as its owner may."""
    if isinstance(told, dict):
        for key in list(told):
            told[key] = 99
        told["more"] = 99
        return
    for k, part in enumerate(told):
        if isinstance(part, (list, dict)):
            spoil(part)
        else:
            told[k] = "spoilt"
    told.append("more")
    told.reverse()


@contextlib.contextmanager
def few_calls(most=250):
    """Within it, calls go at most so much deeper than where it is entered."""
    before = sys.getrecursionlimit()
    sys.setrecursionlimit(len(inspect.stack(0)) + most)
    try:
        yield
    finally:
        sys.setrecursionlimit(before)


def card_of(sender="ann", title="", body="", day=5, answers="", folder="inbox", marks=()):
    return Card(Letter(sender, title, body, day, answers), folder, list(marks))


def state_of(card):
    """All that a card tells, to see that it stays."""
    return (card.letter.parts(), card.box, list(card.signs))


def plainly_holds(tree, card, others):
    """What point 22 says of a tree, word by word."""
    kind = tree[0]
    if kind == "not":
        return not plainly_holds(tree[1], card, others)
    if kind == "both":
        return plainly_holds(tree[1], card, others) and plainly_holds(tree[2], card, others)
    if kind == "either":
        return plainly_holds(tree[1], card, others) or plainly_holds(tree[2], card, others)
    if kind == "thread":
        for k, other in enumerate(others):
            if plainly_holds(tree[1], other, [card] + others[:k] + others[k + 1:]):
                return True
        return False
    letter = card.letter
    return {
        "any": lambda: True,
        "word": lambda: tree[1] in re.findall("[a-z0-9]+", (letter.title + " " + letter.body).lower()),
        "title": lambda: tree[1] in re.findall("[a-z0-9]+", letter.title.lower()),
        "from": lambda: letter.sender == tree[1],
        "day": lambda: letter.day in range(tree[1], tree[2] + 1),
        "in": lambda: card.box == tree[1],
        "marked": lambda: tree[1] in card.signs,
        "answers": lambda: letter.answers != "",
    }[kind]()


def plainly_run(rows, card, others):
    """What point 25 says, act by act: folder, marks, and the rows that were met."""
    letter, folder, marks = card.letter, card.box, set(card.signs)
    met = []
    for place, (tree, acts) in enumerate(rows):
        now = card_of(*letter.parts(), folder=folder, marks=marks)
        if not plainly_holds(tree, now, others):
            continue
        met.append(place)
        for act in acts:
            if act == ("stop",):
                return folder, sorted(marks), met
            if act[0] == "place":
                folder = act[1]
            elif act[0] == "mark":
                marks = marks | {act[1]}
            else:
                marks = marks - {act[1]}
    return folder, sorted(marks), met


class PlainThreads:
    """What points 31 and 32 say, word by word, of a dict from names to what they answer."""

    def __init__(self, links):
        self.links = dict(links)

    def hang(self, one, other):
        answers = self.links
        return answers[one] == other or answers[other] == one or answers[one] == answers[other] != ""

    def thread(self, name):
        found = [name]
        for one in found:
            found += [other for other in self.links if other not in found and self.hang(one, other)]
        return sorted(found)

    def threads(self):
        return sorted(list(thread) for thread in {tuple(self.thread(name)) for name in self.links})

    def answers_to(self, name):
        return sorted(one for one in self.links if self.links[one] == name)

    def depth(self, name):
        way = [name]
        while self.links[way[-1]] in self.links and self.links[way[-1]] not in way:
            way.append(self.links[way[-1]])
        return len(way) - 1


class PlainRoom:
    """What points 2, 41, 42, 61 and 64 say of stamped deeds, when they are looked at plainly."""

    def __init__(self, deeds):
        self.deeds = list(deeds)
        dropped = [name for stamp, name, said in self.said("drop")]
        self.letters = {name: said[0] for stamp, name, said in self.said("put") if name not in dropped}
        self.cards = {}
        for name, parts in self.letters.items():
            self.cards[name] = card_of(*parts, folder=self.folder(name), marks=self.marks(name))
        self.hung = PlainThreads({name: parts[4] for name, parts in self.letters.items()})

    def said(self, kind):
        """Tuples (stamp, name, all that the deed says behind its name) of the deeds of one kind."""
        return [((clock, hand), deed[1], deed[2:]) for clock, hand, number, deed in self.deeds if deed[0] == kind]

    def folder(self, name):
        placed = [(stamp, said[0]) for stamp, one, said in self.said("place") if one == name]
        return max(placed)[1] if placed else "inbox"

    def marks(self, name):
        given = [(stamp, said) for stamp, one, said in self.said("mark") if one == name]
        words = {said[0] for stamp, said in given}
        return sorted(word for word in words if max(one for one in given if one[1][0] == word)[1][1])

    def words(self, name):
        return re.findall("[a-z0-9]+", " ".join(self.letters[name][1:3]).lower())

    def names_in(self, folder):
        return sorted(name for name, card in self.cards.items() if card.box == folder)

    def marked(self, folder, word):
        return len([name for name in self.names_in(folder) if word in self.cards[name].signs])

    def counts(self, folder):
        return (len(self.names_in(folder)), len(self.names_in(folder)) - self.marked(folder, "seen"))

    def folders(self):
        return [(folder,) + self.counts(folder) for folder in sorted({card.box for card in self.cards.values()})]

    def others(self, name):
        return [self.cards[other] for other in self.hung.thread(name) if other != name]

    def find(self, tree):
        found = [name for name in self.cards if plainly_holds(tree, self.cards[name], self.others(name))]
        return sorted(found, key=lambda name: (self.letters[name][3], name))


# Conditions as they are told, and the trees that these texts stand for.
ASKED = [
    ("any", ("any",)), ("word rent", ("word", "rent")), ("title pay", ("title", "pay")), ("from bob", ("from", "bob")),
    ("day 3 to 6", ("day", 3, 6)), ("in home", ("in", "home")), ("marked seen", ("marked", "seen")),
    ("answers", ("answers",)), ("not in inbox", ("not", ("in", "inbox"))),
    ("word rent and marked a", ("both", ("word", "rent"), ("marked", "a"))),
    ("from cy or in work", ("either", ("from", "cy"), ("in", "work"))),
    ("thread marked seen", ("thread", ("marked", "seen"))),
    ("not thread (in home or thread not answers)",
     ("not", ("thread", ("either", ("in", "home"), ("thread", ("not", ("answers",))))))),
]
FOLDERS = ["inbox", "home", "work", "nowhere"]
WORDS = ["rent", "pay", "seen", "a", "b", "none"]


def assert_tells(case, room, deeds, asked=ASKED):
    """All that a room tells is what these deeds say plainly."""
    plain = PlainRoom(deeds)
    case.assertEqual(room.names(), sorted(plain.letters))
    case.assertEqual(room.threads(), plain.hung.threads())
    for name, card in plain.cards.items():
        case.assertEqual(room.letter_at(name).parts(), plain.letters[name])
        case.assertEqual(room.folder(name), card.box)
        case.assertEqual(room.marks(name), card.signs)
        case.assertEqual(state_of(room.card(name)), state_of(card))
        case.assertEqual(room.thread(name), plain.hung.thread(name))
    case.assertEqual(room.folders(), plain.folders())
    for folder in FOLDERS:
        case.assertEqual(room.counts(folder), plain.counts(folder))
        case.assertEqual(room.names_in(folder), plain.names_in(folder))
        for word in WORDS:
            case.assertEqual(room.marked(folder, word), plain.marked(folder, word))
    for word in WORDS:
        case.assertEqual(room.having(word), sorted(name for name in plain.letters if word in plain.words(name)))
    for text, tree in asked:
        case.assertEqual(room.find(text), plain.find(tree), text)


def assert_shows(case, board, deeds):
    """All that a board tells is what these deeds say plainly."""
    plain = PlainRoom(deeds)
    hung, listed, boxed = board.hung, board.listed, board.boxed
    case.assertEqual(board.names(), sorted(plain.letters))
    case.assertEqual(hung.names(), sorted(plain.letters))
    case.assertEqual(hung.threads(), plain.hung.threads())
    for name, card in plain.cards.items():
        case.assertEqual(board.letter_at(name).parts(), plain.letters[name])
        case.assertEqual(state_of(board.card(name)), state_of(card))
        case.assertEqual((boxed.folder(name), boxed.marks(name)), (card.box, card.signs))
        case.assertEqual((hung.thread(name), hung.depth(name)), (plain.hung.thread(name), plain.hung.depth(name)))
        case.assertEqual(hung.answers_to(name), plain.hung.answers_to(name))
        case.assertEqual(listed.words(name), sorted(set(plain.words(name))))
    case.assertEqual(listed.all_words(), sorted({word for name in plain.letters for word in plain.words(name)}))
    case.assertEqual(boxed.folders(), plain.folders())
    for name in {stamped[3][1] for stamped in deeds} - set(plain.letters):
        for ask in (board.letter_at, board.card, hung.thread, listed.words, boxed.folder):
            assert_refused(case, NoName, ask, name)


LEAVES = [
    ("any",), ("answers",), ("word", "rent"), ("word", "and"), ("title", "pay"), ("title", "any"), ("from", "bob"),
    ("from", "not"), ("day", 3, 7), ("day", 5, 5), ("day", 7, 3), ("day", 0, 9999), ("in", "home"), ("in", "in"),
    ("marked", "seen"), ("marked", "then"),
]


def threads_within(tree):
    """How many thread stand within one another."""
    inner = [threads_within(part) for part in tree[1:] if isinstance(part, tuple)]
    return (1 if tree[0] == "thread" else 0) + max(inner, default=0)


def random_tree(chance, deep, threads=2):
    """A tree at most so deep, with at most so many thread within one another."""
    kind = chance.choice(["leaf", "not", "both", "either", "thread"])
    if deep == 1 or kind == "leaf" or kind == "thread" and threads == 0:
        return chance.choice(LEAVES)
    if kind == "not":
        return ("not", random_tree(chance, deep - 1, threads))
    if kind == "thread":
        return ("thread", random_tree(chance, deep - 1, threads - 1))
    return (kind, random_tree(chance, deep - 1, threads), random_tree(chance, deep - 1, threads))
