"""Points 2 and 3: rooms of several hands, and what they tell one another."""

import itertools
import random
import time
import unittest

from helper import ASKED, PlainRoom, assert_refused, assert_tells, card_of, plainly_run, random_tree
from mailroom.conditions import condition_of
from mailroom.errors import NoParcel
from mailroom.rooms import Room, meet
from mailroom.rules import Rules

HANDS = ["ann", "annb", "bob", "cy"]


def told_of(room):
    """All that a room tells of letters, folders, marks, threads, counts, and what is found."""
    names = room.names()
    folders = room.folders()
    return (
        names, [room.letter_at(name).parts() for name in names], [room.folder(name) for name in names],
        [room.marks(name) for name in names], [room.thread(name) for name in names], room.threads(), folders,
        [room.names_in(folder) for folder, whole, unseen in folders], [room.find(text) for text, tree in ASKED],
        [room.having(word) for word in ("rent", "pay", "a")], room.have(), room.told(),
    )


class MeetTest(unittest.TestCase):

    def assert_same(self, rooms):
        for room in rooms:
            self.assertEqual(told_of(room), told_of(rooms[0]))
            assert_tells(self, room, rooms[0].told())

    def test_two_rooms(self):
        ann, bob = Room("ann"), Room("bob")
        ann.put("x", "Rent", "", 1)
        bob.put("y", "Pay", "", 2, "ann1")
        bob.place("bob1", "home")
        self.assertIsNone(meet(ann, bob))
        self.assert_same([ann, bob])
        self.assertEqual(ann.names(), ["ann1", "bob1"])
        self.assertEqual(ann.thread("ann1"), ["ann1", "bob1"])
        self.assertEqual(ann.have(), {"ann": 1, "bob": 2})

    def test_one_that_has_nothing(self):
        for turn in (False, True):
            ann, bob = Room("ann"), Room("bob")
            ann.put("x", "Rent", "", 1)
            meet(*([bob, ann] if turn else [ann, bob]))
            self.assert_same([ann, bob])
            self.assertEqual(bob.names(), ["ann1"])

    def test_two_that_have_nothing(self):
        ann, bob = Room("ann"), Room("bob")
        meet(ann, bob)
        self.assert_same([ann, bob])

    def test_a_room_with_itself(self):
        ann = Room("ann")
        meet(ann, ann)
        self.assertEqual(ann.told(), [])
        ann.put("x", "Rent", "", 1)
        before = told_of(ann)
        self.assertIsNone(meet(ann, ann))
        self.assertEqual(told_of(ann), before)
        self.assertEqual(ann.take(ann.told()), 0)
        self.assertEqual(told_of(ann), before)

    def test_what_both_did_to_one_letter(self):
        ann, bob = Room("ann"), Room("bob")
        ann.put("x", "Rent", "", 1)
        meet(ann, bob)
        ann.place("ann1", "home")
        bob.place("ann1", "work")
        ann.mark("ann1", "seen")
        bob.mark("ann1", "seen", False)
        meet(ann, bob)
        self.assert_same([ann, bob])
        # Equal clocks: the hand that comes behind has the greater stamp.
        self.assertEqual((ann.folder("ann1"), ann.marks("ann1")), ("work", []))
        ann.mark("ann1", "seen")
        meet(bob, ann)
        self.assertEqual((bob.marks("ann1"), ann.marks("ann1")), (["seen"], ["seen"]))

    def test_a_drop_and_a_newer_deed(self):
        ann, bob = Room("ann"), Room("bob")
        ann.put("x", "Rent", "", 1)
        meet(ann, bob)
        ann.drop("ann1")
        for k in range(5):
            bob.mark("ann1", f"m{k}")
        meet(ann, bob)
        self.assert_same([ann, bob])
        self.assertEqual(ann.names(), [])

    def test_by_way_of_a_third(self):
        ann, bob, cy = Room("ann"), Room("bob"), Room("cy")
        ann.put("x", "Rent", "", 1)
        cy.put("x", "Pay", "", 1, "ann1")
        meet(ann, bob)
        meet(bob, cy)
        meet(bob, ann)
        self.assert_same([ann, bob, cy])

    def test_rules_are_told_by_no_parcel(self):
        ann, bob = Room("ann"), Room("bob")
        ann.rules("if any then place home, mark a")
        ann.put("x", "Rent", "", 1)
        meet(ann, bob)
        self.assertEqual(bob.rules_written(), "")
        self.assertEqual(ann.rules_written(), "if any then place home, mark a")
        bob.put("x", "Rent", "", 1)
        self.assertEqual((bob.folder("bob1"), bob.marks("bob1")), ("inbox", []))
        self.assertEqual((bob.folder("ann1"), bob.marks("ann1")), ("home", ["a"]))
        bob.rules("if any then mark b")
        meet(bob, ann)
        self.assertEqual(ann.rules_written(), "if any then place home, mark a")
        self.assertEqual(bob.rules_written(), "if any then mark b")
        self.assertEqual(ann.folder("bob1"), "inbox")
        self.assert_same([ann, bob])

    def test_how_many_were_new(self):
        ann, bob = Room("ann"), Room("bob")
        ann.put("x", "Rent", "", 1)
        ann.mark("ann1", "a")
        self.assertEqual(bob.take(ann.told()), 2)
        self.assertEqual(bob.take(ann.told()), 0)
        self.assertEqual(bob.take([]), 0)
        ann.mark("ann1", "b")
        self.assertEqual(bob.take(ann.told() + ann.told()), 1)
        self.assertEqual(bob.take(ann.told(bob.have())), 0)

    def test_where_one_refuses_neither_takes(self):
        """Two that were told different things of cy: what is refused changes nothing, in either room."""
        for turn in (False, True):
            ann, bob = Room("ann"), Room("bob")
            ann.take([(9, "cy", 1, ("drop", "x"))])
            bob.take([(1, "cy", 1, ("drop", "x")), (2, "cy", 2, ("drop", "y"))])
            ann.put("x", "Rent", "", 1)
            bob.put("x", "Rent", "", 1)
            before = [told_of(ann), told_of(bob)]
            assert_refused(self, NoParcel, meet, *([bob, ann] if turn else [ann, bob]))
            self.assertEqual([told_of(ann), told_of(bob)], before)


class OrderTest(unittest.TestCase):

    def test_any_order_of_single_deeds(self):
        """Each hand's deeds in their order, the hands' deeds mixed in every way."""
        ann, bob = Room("ann"), Room("bob")
        ann.put("x", "Rent", "", 1)
        bob.take(ann.told())
        ann.place("ann1", "home")
        ann.drop("ann1")
        bob.mark("ann1", "seen")
        bob.put("y", "", "rent", 1, "ann1")
        bob.place("ann1", "work")
        deeds = {"ann": ann.told(), "bob": [stamped for stamped in bob.told() if stamped[1] == "bob"]}
        for places in itertools.combinations(range(6), 3):
            room, taken = Room("cy"), []
            for k in range(6):
                hand = "ann" if k in places else "bob"
                stamped = deeds[hand][len([one for one in taken if one[1] == hand])]
                self.assertEqual(room.take([stamped]), 1)
                taken.append(stamped)
                assert_tells(self, room, taken)
        self.assertEqual(len(taken), 6)

    def test_ends_by_any_parcels(self):
        chance = random.Random(3)
        source = Room("ann")
        play(self, [source, Room("bob"), Room("cy")], chance, 60, 0)
        deeds = source.told()
        for again in range(20):
            room, waiting = Room("dan"), list(deeds)
            while waiting:
                cut = chance.randrange(1, len(waiting) + 1)
                parcel, waiting = waiting[:cut], waiting[cut:]
                parcel += chance.choices(deeds[:len(deeds) - len(waiting)], k=3)
                chance.shuffle(parcel)
                room.take(parcel)
            self.assertEqual(told_of(room), told_of(source))


def random_rules(chance):
    rows = []
    for row in range(chance.randrange(4)):
        acts = chance.choices([("place", "home"), ("place", "work"), ("place", "inbox"), ("mark", "a"),
                               ("mark", "seen"), ("unmark", "seen"), ("unmark", "a"), ("stop",)],
                              k=chance.randrange(1, 4))
        rows.append((random_tree(chance, 4), acts))
    return rows


def sorted_deeds(name, card, folder, marks):
    """What point 62 says is done where the rules that were run on a card end with this folder and these marks."""
    placed = [("place", name, folder)] if folder != card.box else []
    given = [("mark", name, word, True) for word in marks if word not in card.signs]
    taken = [("mark", name, word, False) for word in card.signs if word not in marks]
    return placed + given + taken


class Player:
    """A room, the rows of its rules, and what is to be told of it."""

    def __init__(self, case, room):
        self.case = case
        self.room = room
        self.rules([])

    def done(self, deeds, ask, *given):
        before = self.room.told()
        clock = max([stamped[0] for stamped in before], default=0)
        number = self.room.have().get(self.room.hand, 0)
        answer = ask(*given)
        new = [(clock + k, self.room.hand, number + k, deed) for k, deed in enumerate(deeds, start=1)]
        self.case.assertEqual(self.room.told(), before + new)
        return answer

    def put(self, parts):
        own = [deed for clock, hand, number, deed in self.room.told() if hand == self.room.hand and deed[0] == "put"]
        name = f"{self.room.hand}{len(own) + 1}"
        stamped = (9999, self.room.hand, 9999, ("put", name, parts))
        plain = PlainRoom(self.room.told() + [stamped])
        others = plain.others(name) if name in plain.cards else []
        card = card_of(*parts)
        folder, marks, met = plainly_run(self.rows, card, others)
        deeds = [stamped[3]] + sorted_deeds(name, card, folder, marks)
        self.case.assertEqual(self.done(deeds, self.room.put, *parts), name)

    def sort_anew(self, name):
        plain = PlainRoom(self.room.told())
        folder, marks, met = plainly_run(self.rows, plain.cards[name], plain.others(name))
        self.done(sorted_deeds(name, plain.cards[name], folder, marks), self.room.sort_anew, name)

    def rules(self, rows):
        self.rows = rows
        self.room.rules(Rules([(condition_of(tree), acts) for tree, acts in rows]).written())

    def step(self, chance):
        room = self.room
        names = room.names()
        kind = chance.choice(["put", "put", "place", "mark", "unmark", "drop", "sort", "rules"])
        if kind == "rules":
            self.rules(random_rules(chance))
        elif kind == "put" or not names:
            answers = chance.choice(names + ["", "", "ann1", "bob2", "gone"])
            self.put((chance.choice(["bob", "cy", "not"]), chance.choice(["Pay the RENT", "rent", "", "any and"]),
                      chance.choice(["", "pay", "the rent and"]), chance.randrange(9), answers))
        elif kind == "sort":
            self.sort_anew(chance.choice(names))
        elif kind == "drop" and chance.random() < 0.5:
            name = chance.choice(names)
            self.done([("drop", name)], room.drop, name)
        elif kind == "place":
            name, folder = chance.choice(names), chance.choice(["inbox", "home", "work"])
            self.done([("place", name, folder)], room.place, name, folder)
        else:
            name, word, on = chance.choice(names), chance.choice(["seen", "a", "then"]), kind == "mark"
            self.done([("mark", name, word, on)], room.mark, name, word, on)

    def tell(self, other, chance):
        """Tells another room what it did: all, or what is new to it; in parts, out of order, or twice."""
        parcel = self.room.told(other.have() if chance.random() < 0.5 else None)
        before, number = other.told(), len(other.told())
        if chance.random() < 0.3:
            cut = chance.randrange(len(parcel) + 1)
            new = other.take(parcel[:cut]) + other.take(parcel[cut:] + parcel[:cut])
        else:
            chance.shuffle(parcel)
            new = other.take(parcel + parcel[:2])
        self.case.assertEqual(set(other.told()), set(before) | set(parcel))
        self.case.assertEqual(len(other.told()), number + new)


def play(case, rooms, chance, steps, look):
    """Long series of deeds and meetings; every so many steps all that a room tells is looked at (0: at the end)."""
    players = [Player(case, room) for room in rooms]
    for step in range(1, steps + 1):
        player = chance.choice(players)
        other = chance.choice(players)
        kind = chance.random()
        if kind < 0.75:
            player.step(chance)
        elif kind < 0.9:
            player.tell(other.room, chance)
        else:
            meet(player.room, other.room)
            case.assertEqual(told_of(player.room), told_of(other.room))
        if look and step % look == 0:
            assert_tells(case, player.room, player.room.told())
            assert_tells(case, other.room, other.room.told())
    for one, other in itertools.product(rooms + rooms, rooms):
        meet(one, other)
    for room in rooms:
        case.assertEqual(told_of(room), told_of(rooms[0]))
        assert_tells(case, room, rooms[0].told())


class LongTest(unittest.TestCase):

    def test_one_room_behind_each_step(self):
        for seed in range(8):
            play(self, [Room("ann")], random.Random(seed), 40, 1)

    def test_several_rooms_behind_each_step(self):
        for seed in range(8):
            play(self, [Room(hand) for hand in HANDS[:3]], random.Random(100 + seed), 50, 1)

    def test_longer_series(self):
        for seed in range(3):
            play(self, [Room(hand) for hand in HANDS], random.Random(200 + seed), 160, 20)

    def test_wrong_parcels_on_the_way(self):
        chance = random.Random(300)
        rooms = [Room("ann"), Room("bob")]
        for again in range(15):
            play(self, rooms, chance, 6, 0)
            room = chance.choice(rooms)
            before = told_of(room)
            last = room.told()[-1]
            number = room.have()[last[1]]
            for parcel in ([(last[0] + 5, last[1], number + 2, ("drop", "x"))], [last, last[:3]],
                           [(last[0], last[1], number + 1, ("drop", "x"))], tuple(room.told()),
                           [(last[0] + 5, "dan", 1, ("drop", room.names()[0] if room.names() else "x")), (1, "dan", 3)],
                           [(last[0] + 1,) + last[1:]], [last[:3] + (("drop", "other"),)],
                           [(last[0] + 9, last[1], number + 1, ("put", last[1], ("x", "", "", 1, "")))]):
                assert_refused(self, NoParcel, room.take, parcel)
                self.assertEqual(told_of(room), before)


class BoundsTest(unittest.TestCase):
    """At the bounds of point 5 nothing takes long; the times allowed are many times those needed."""

    HANDS = ["ann", "bob", "cy", "dan", "eve", "fay", "gus", "hal"]

    def in_time(self, seconds, ask, *given):
        start = time.perf_counter()
        answer = ask(*given)
        self.assertLess(time.perf_counter() - start, seconds)
        return answer

    def fill(self, rooms):
        """200 letters, in one thread, and 2000 deeds in all."""
        body = " ".join(f"word{k}" for k in range(60))[:400]
        for k in range(25):
            for room in rooms:
                room.put("bob", f"title {k}", body, k, f"{room.hand}{k}" if k else "ann1")
        for k in range(225):
            for room in rooms:
                room.mark(f"{room.hand}{k % 25 + 1}", f"m{k % 7}", k % 3 > 0)

    def meet_all(self, rooms):
        for one in rooms:
            for other in rooms:
                meet(one, other)

    def test_2000_deeds_of_8_hands(self):
        rooms = [Room(hand) for hand in self.HANDS]
        self.in_time(10, self.fill, rooms)
        self.in_time(10, self.meet_all, rooms)
        for room in rooms:
            self.assertEqual(len(room.told()), 2000)
            self.assertEqual(len(room.names()), 200)
            self.assertEqual(len(room.threads()), 1)
            self.assertEqual(room.told(), rooms[0].told())
            self.assertEqual(room.folders(), rooms[0].folders())
        text = "thread (word word7 and not thread (title 3 or marked m2)) or thread thread marked m1"
        self.assertEqual(len(self.in_time(5, rooms[3].find, text)), 200)

    def test_40_rows_of_rules_on_a_thread_of_200(self):
        room = Room("ann")
        for k in range(199):
            room.put("bob", "", "y " * 200, 1, "ann1")
        wide = " or ".join(f"word x{k}" for k in range(14))
        row = f"if thread thread (({wide}) and ({wide}) and ({wide})) or thread word first then mark "
        room.rules("\n".join(row + f"m{k}" for k in range(40)))
        self.assertEqual(self.in_time(5, room.put, "bob", "First", "", 1, "ann1"), "ann200")
        self.assertEqual(room.marks("ann200"), [])
        self.in_time(5, room.sort_anew, "ann7")
        self.assertEqual(len(room.marks("ann7")), 40)


if __name__ == "__main__":
    unittest.main()
