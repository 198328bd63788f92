"""What several tests need."""

import contextlib
import inspect
import re
import sys

from mailroom.cards import Card
from mailroom.letters import Letter

# Things of every kind that are no text; truths and numbers among them.
NO_TEXTS = [
    None, True, False, 0, 1, -1, 12, 1.5, b"", b"a", [], ["a"], ["a", "b"], (), ("a",), ("a", "b"),
    {}, {"a": "b"}, {"a"}, object(), str, len,
]


class LikeAll:
    """A thing that says of everything that it is equal to it."""

    def __eq__(self, other):
        return True

    def __ne__(self, other):
        return False

    def __len__(self):
        return 1

    def __iter__(self):
        return iter("a")

    def __contains__(self, sign):
        return False


NO_TEXTS.append(LikeAll())

# As names these are never there.
NO_NAMES = [None, 0, 1, -1, 12, 10 ** 5000, True, False]


def assert_refused(case, error, ask, *given):
    """Refused by that very class."""
    with case.assertRaises(error) as caught:
        ask(*given)
    case.assertIs(type(caught.exception), error)


def spoil(told):
    """Changes all that a list or dict holds, and adds to it, as its owner may."""
    if isinstance(told, dict):
        for key in list(told):
            told[key] = 99
        told["more"] = 99
        return
    for k, part in enumerate(told):
        if isinstance(part, (list, dict)):
            spoil(part)
        else:
            told[k] = "spoilt"
    told.append("more")
    told.reverse()


@contextlib.contextmanager
def few_calls(most=250):
    """Within it, calls go at most so much deeper than where it is entered."""
    before = sys.getrecursionlimit()
    sys.setrecursionlimit(len(inspect.stack(0)) + most)
    try:
        yield
    finally:
        sys.setrecursionlimit(before)


def card_of(sender="ann", title="", body="", day=5, answers="", folder="inbox", marks=()):
    return Card(Letter(sender, title, body, day, answers), folder, list(marks))


def state_of(card):
    """All that a card tells, to see that it stays."""
    return (card.letter.parts(), card.box, list(card.signs))


def plainly_holds(tree, card, others):
    """What point 22 says of a tree, word by word."""
    kind = tree[0]
    if kind == "not":
        return not plainly_holds(tree[1], card, others)
    if kind == "both":
        return plainly_holds(tree[1], card, others) and plainly_holds(tree[2], card, others)
    if kind == "either":
        return plainly_holds(tree[1], card, others) or plainly_holds(tree[2], card, others)
    if kind == "thread":
        for k, other in enumerate(others):
            if plainly_holds(tree[1], other, [card] + others[:k] + others[k + 1:]):
                return True
        return False
    letter = card.letter
    return {
        "any": lambda: True,
        "word": lambda: tree[1] in re.findall("[a-z0-9]+", (letter.title + " " + letter.body).lower()),
        "title": lambda: tree[1] in re.findall("[a-z0-9]+", letter.title.lower()),
        "from": lambda: letter.sender == tree[1],
        "day": lambda: letter.day in range(tree[1], tree[2] + 1),
        "in": lambda: card.box == tree[1],
        "marked": lambda: tree[1] in card.signs,
        "answers": lambda: letter.answers != "",
    }[kind]()


LEAVES = [
    ("any",), ("answers",), ("word", "rent"), ("word", "and"), ("title", "pay"), ("title", "any"), ("from", "bob"),
    ("from", "not"), ("day", 3, 7), ("day", 5, 5), ("day", 7, 3), ("day", 0, 9999), ("in", "home"), ("in", "in"),
    ("marked", "seen"), ("marked", "then"),
]


def threads_within(tree):
    """How many thread stand within one another."""
    inner = [threads_within(part) for part in tree[1:] if isinstance(part, tuple)]
    return (1 if tree[0] == "thread" else 0) + max(inner, default=0)


def random_tree(chance, deep, threads=2):
    """A tree at most so deep, with at most so many thread within one another."""
    kind = chance.choice(["leaf", "not", "both", "either", "thread"])
    if deep == 1 or kind == "leaf" or kind == "thread" and threads == 0:
        return chance.choice(LEAVES)
    if kind == "not":
        return ("not", random_tree(chance, deep - 1, threads))
    if kind == "thread":
        return ("thread", random_tree(chance, deep - 1, threads - 1))
    return (kind, random_tree(chance, deep - 1, threads), random_tree(chance, deep - 1, threads))
