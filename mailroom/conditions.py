"""Conditions: what is asked of a card and of its others, the cards of the other letters of its thread."""

from mailroom.errors import NoRule


# Each form is made of its own tree. What a form doesn't tell by itself is told here.
class Condition:

    def __init__(self, tree):
        self.shape = tree

    def holds(self, card, others):
        return True

    # Of each of the cards, whether this holds of it with the rest of them as its others.
    # Most forms look at no others, so they need not be told them.
    def truths(self, cards):
        return [self.holds(card, []) for card in cards]

    def tree(self):
        return self.shape

    def written(self):
        return " ".join(self.shape)


class Always(Condition):
    pass


class HasWord(Condition):

    def holds(self, card, others):
        return self.shape[1] in card.letter.known()


class HasTitleWord(Condition):

    def holds(self, card, others):
        return card.letter.known().get(self.shape[1], False)


class IsFrom(Condition):

    def holds(self, card, others):
        return card.letter.sender == self.shape[1]


class IsOfDays(Condition):

    def holds(self, card, others):
        return self.shape[1] <= card.letter.day <= self.shape[2]

    def written(self):
        first = self.shape[1]
        last = self.shape[2]
        return f"day {first} to {last}"


class IsIn(Condition):

    def holds(self, card, others):
        return card.box == self.shape[1]


class IsMarked(Condition):

    def holds(self, card, others):
        return self.shape[1] in card.signs


class DoesAnswer(Condition):

    def holds(self, card, others):
        return card.letter.answers != ""


class Wrapped(Condition):

    def __init__(self, tree):
        Condition.__init__(self, tree)
        self.inner = condition_of(tree[1])

    def written(self):
        return self.shape[0] + " " + self.inner.written()


class Not(Wrapped):

    def holds(self, card, others):
        return not self.inner.holds(card, others)

    def truths(self, cards):
        return [not truth for truth in self.inner.truths(cards)]


class InThread(Wrapped):

    def holds(self, card, others):
        return any(self.inner.truths([card] + others)[1:])

    # A card with its others is the same whole thread whichever card is asked, so the inner condition is
    # asked once of each card, and not once of each card for each other: threads within threads stay cheap.
    def truths(self, cards):
        inner = self.inner.truths(cards)
        holding = inner.count(True)
        return [holding > (1 if truth else 0) for truth in inner]


class Joined(Condition):

    def __init__(self, tree):
        Condition.__init__(self, tree)
        self.one = condition_of(tree[1])
        self.other = condition_of(tree[2])

    def written_with(self, between):
        one = self.one.written()
        other = self.other.written()
        return f"({one} {between} {other})"


class Both(Joined):

    def holds(self, card, others):
        return self.one.holds(card, others) and self.other.holds(card, others)

    def truths(self, cards):
        return [one and other for one, other in zip(self.one.truths(cards), self.other.truths(cards))]

    def written(self):
        return self.written_with("and")


class Either(Joined):

    def holds(self, card, others):
        return self.one.holds(card, others) or self.other.holds(card, others)

    def truths(self, cards):
        return [one or other for one, other in zip(self.one.truths(cards), self.other.truths(cards))]

    def written(self):
        return self.written_with("or")


def condition_of(tree):
    kind = tree[0]
    if kind == "any":
        return Always(tree)
    if kind == "word":
        return HasWord(tree)
    if kind == "title":
        return HasTitleWord(tree)
    if kind == "from":
        return IsFrom(tree)
    if kind == "day":
        return IsOfDays(tree)
    if kind == "in":
        return IsIn(tree)
    if kind == "marked":
        return IsMarked(tree)
    if kind == "answers":
        return DoesAnswer(tree)
    if kind == "not":
        return Not(tree)
    if kind == "both":
        return Both(tree)
    if kind == "either":
        return Either(tree)
    if kind == "thread":
        return InThread(tree)
    raise NoRule("no form of a condition's tree")
