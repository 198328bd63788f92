"""Ledgers: the stamped deeds that a hand has, its own and those that others told it."""

from mailroom.deeds import is_hand, is_stamped, stamp_of
from mailroom.errors import NoName, NoParcel


def number_of(stamped):
    return stamped[2]


# The name that the next put of a hand has to have, behind those on its shelf.
def name_behind(hand, shelf):
    puts = [stamped for stamped in shelf if stamped[3][0] == "put"]
    return hand + str(len(puts) + 1)


def check_parcel(parcel):
    if not isinstance(parcel, list) or not all([is_stamped(thing) for thing in parcel]):
        raise NoParcel("a parcel is a list of stamped deeds")


def check_next(stamped, shelf):
    if stamped[2] != len(shelf) + 1:
        raise NoParcel("a gap in a hand's numbers")
    if shelf and stamped[0] <= shelf[-1][0]:
        raise NoParcel("a hand's clocks don't rise")
    deed = stamped[3]
    if deed[0] == "put" and deed[1] != name_behind(stamped[1], shelf):
        raise NoParcel("a put of another name than its hand and place want")


class Ledger:

    def __init__(self, hand):
        if not is_hand(hand):
            raise NoName("a ledger is a hand's")
        self.hand = hand
        # Of each hand that there is a deed of, its shelf: the deed with the number k at the place k - 1.
        self.shelves = {}

    def shelf(self, hand):
        return self.shelves.get(hand, [])

    def next_name(self):
        return name_behind(self.hand, self.shelf(self.hand))

    # What is done is taken like what is told: so both are held to the same.
    def do(self, deed):
        clock = max([shelf[-1][0] for shelf in self.shelves.values()], default=0) + 1
        stamped = (clock, self.hand, len(self.shelf(self.hand)) + 1, deed)
        self.take([stamped])
        return stamped

    def have(self):
        numbers = {}
        for hand in self.shelves:
            numbers[hand] = len(self.shelves[hand])
        return numbers

    def told(self, have=None):
        had = {} if have is None else have
        parcel = []
        for hand in self.shelves:
            parcel.extend(self.shelves[hand][had.get(hand, 0):])
        return sorted(parcel, key=stamp_of)

    # The shelves as they would be behind the parcel, and what is new in it; or the refusal, and nothing is kept.
    def weighed(self, parcel):
        check_parcel(parcel)
        shelves = dict(self.shelves)
        fresh = []
        # By their numbers each deed comes behind those of its hand that it needs.
        for stamped in sorted(parcel, key=number_of):
            hand = stamped[1]
            shelf = shelves.get(hand, [])
            if stamped[2] > len(shelf):
                check_next(stamped, shelf)
                shelves[hand] = shelf + [stamped]
                fresh.append(stamped)
            elif stamped != shelf[stamped[2] - 1]:
                raise NoParcel("two deeds of one hand and number that are not alike")
        return (shelves, sorted(fresh, key=stamp_of))

    def take(self, parcel):
        weighed = self.weighed(parcel)
        self.shelves = weighed[0]
        return weighed[1]
