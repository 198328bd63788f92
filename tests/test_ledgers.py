import itertools
import random
import unittest

from helper import NO_TEXTS, LikeAll, assert_refused, spoil
from mailroom.deeds import is_stamped
from mailroom.errors import NoName, NoParcel
from mailroom.ledgers import Ledger

PARTS = ("bob", "Rent", "pay", 12, "")


def put(name, title="Rent"):
    return ("put", name, ("bob", title, "pay", 12, ""))


def drop(name="x"):
    return ("drop", name)


def by_stamp(parcel):
    return sorted(parcel, key=lambda stamped: (stamped[0], stamped[1]))


def counted(parcel):
    """How many deeds of each hand a parcel has."""
    hands = [hand for clock, hand, number, deed in parcel]
    return {hand: hands.count(hand) for hand in hands}


class LedgerCase(unittest.TestCase):

    def assert_has(self, ledger, parcel):
        """What points 53 and 55 say of a ledger that has these deeds."""
        self.assertEqual(ledger.have(), counted(parcel))
        self.assertEqual(ledger.told(), by_stamp(parcel))
        self.assertEqual(ledger.told(None), by_stamp(parcel))

    def assert_refused(self, ledger, parcel):
        before = ledger.told()
        assert_refused(self, NoParcel, ledger.take, parcel)
        self.assert_has(ledger, before)

    def ledger_with(self, parcel, hand="ann"):
        ledger = Ledger(hand)
        self.assertEqual(ledger.take(parcel), by_stamp(parcel))
        self.assert_has(ledger, parcel)
        return ledger


class MadeTest(LedgerCase):

    def test_nothing_at_first(self):
        for hand in ("a", "ann", "abcdefgh"):
            ledger = Ledger(hand)
            self.assertEqual(ledger.hand, hand)
            self.assertEqual(ledger.have(), {})
            self.assertEqual(ledger.told(), [])
            self.assertEqual(ledger.told({}), [])
            self.assertEqual(ledger.told({"ann": 3}), [])

    def test_of_what_is_no_hand(self):
        for thing in ["", "A", "Ann", "ann1", "a" * 9, "a b", "ann\n", " "] + NO_TEXTS:
            assert_refused(self, NoName, Ledger, thing)


class DoTest(LedgerCase):

    def test_each_form(self):
        ledger = Ledger("ann")
        deeds = [
            ("drop", "bob7"), ("put", "ann1", PARTS), ("place", "ann1", "home"), ("mark", "ann1", "seen", True),
            ("mark", "ann1", "seen", False), ("put", "ann2", PARTS), ("drop", "ann1"), ("drop", "ann1"),
        ]
        done = []
        for k, deed in enumerate(deeds, start=1):
            stamped = ledger.do(deed)
            self.assertEqual(stamped, (k, "ann", k, deed))
            self.assertIs(is_stamped(stamped), True)
            done.append(stamped)
            self.assert_has(ledger, done)

    def test_what_is_no_deed(self):
        ledger = Ledger("ann")
        ledger.do(put("ann1"))
        before = ledger.told()
        wrong = [
            ("drop",), ("drop", "A"), ("drop", "a", "b"), ["drop", "ann1"], ("mark", "a", "b", 1), ("mark", "a", "b"),
            ("place", "a", "B"), ("put", "ann2", PARTS[:4]), ("put", "ann2", list(PARTS)), ("unmark", "ann1", "a"),
            ("put", "ann2", ("bob", "t" * 61, "", 1, "")), "drop", (1, "ann", 2, drop()), (LikeAll(), "ann2", PARTS),
        ]
        for thing in wrong + NO_TEXTS:
            assert_refused(self, NoParcel, ledger.do, thing)
            self.assert_has(ledger, before)
        self.assertEqual(ledger.do(drop()), (2, "ann", 2, drop()))

    def test_puts_of_another_name(self):
        ledger = Ledger("ann")
        for k in range(1, 12):
            before = ledger.told()
            for name in ("ann", "ann0", f"ann0{k}", f"ann{k + 1}", f"ann{k - 1}", f"bob{k}", f"{k}", f"anna{k}",
                         f"an{k}", f"ann{k}0", f"{k}ann", "x"):
                assert_refused(self, NoParcel, ledger.do, put(name))
                self.assert_has(ledger, before)
            ledger.do(drop(f"ann{k + 1}"))
            self.assertEqual(ledger.do(put(f"ann{k}")), (2 * k, "ann", 2 * k, put(f"ann{k}")))

    def test_only_puts_are_counted_for_the_name(self):
        ledger = Ledger("ann")
        for k in range(5):
            ledger.do(drop())
            ledger.do(("place", "ann1", "home"))
        self.assertEqual(ledger.do(put("ann1"))[:3], (11, "ann", 11))
        self.assertEqual(ledger.do(put("ann2"))[:3], (12, "ann", 12))

    def test_a_clock_above_the_greatest_of_all(self):
        ledger = Ledger("ann")
        ledger.do(drop())
        ledger.take([(5, "bob", 1, drop()), (9, "bob", 2, drop())])
        self.assertEqual(ledger.do(drop()), (10, "ann", 2, drop()))
        self.assertEqual(ledger.do(drop()), (11, "ann", 3, drop()))
        ledger.take([(10, "bob", 3, drop()), (3, "cy", 1, drop())])
        self.assertEqual(ledger.do(drop()), (12, "ann", 4, drop()))
        ledger.take([(40, "cy", 2, drop())])
        self.assertEqual(ledger.do(put("ann1")), (41, "ann", 5, put("ann1")))
        ledger.take([(41, "cy", 3, drop())])
        self.assertEqual(ledger.do(drop())[0], 42)

    def test_a_clock_behind_a_parcel_of_others_alone(self):
        ledger = self.ledger_with([(7, "bob", 1, drop()), (8, "cy", 1, drop())])
        self.assertEqual(ledger.do(put("ann1")), (9, "ann", 1, put("ann1")))

    def test_behind_deeds_of_its_own_hand_that_it_took(self):
        ledger = self.ledger_with([(4, "ann", 1, put("ann1")), (6, "ann", 2, drop()), (7, "ann", 3, put("ann2"))])
        assert_refused(self, NoParcel, ledger.do, put("ann1"))
        self.assertEqual(ledger.do(put("ann3")), (8, "ann", 4, put("ann3")))

    def test_puts_of_others_are_not_counted(self):
        ledger = self.ledger_with([(1, "bob", 1, put("bob1")), (2, "bob", 2, put("bob2"))])
        assert_refused(self, NoParcel, ledger.do, put("ann3"))
        self.assertEqual(ledger.do(put("ann1")), (3, "ann", 1, put("ann1")))


class TakeTest(LedgerCase):

    SOUND = [
        (1, "bob", 1, put("bob1")), (3, "bob", 2, drop("bob1")), (4, "bob", 3, put("bob2")),
        (1, "ann", 1, drop()), (3, "ann", 2, put("ann1")), (2, "cy", 1, ("mark", "bob1", "seen", True)),
    ]

    def test_without_deeds(self):
        ledger = Ledger("ann")
        self.assertEqual(ledger.take([]), [])
        self.assert_has(ledger, [])
        ledger.do(drop())
        self.assertEqual(ledger.take([]), [])
        self.assert_has(ledger, [(1, "ann", 1, drop())])

    def test_in_any_order(self):
        for order in itertools.permutations(self.SOUND):
            ledger = Ledger("ann")
            self.assertEqual(ledger.take(list(order)), by_stamp(self.SOUND))
            self.assertEqual(ledger.told(), by_stamp(self.SOUND))
        self.assert_has(ledger, self.SOUND)

    def test_what_is_new_is_told_by_rising_stamps(self):
        ledger = Ledger("ann")
        parcel = [(10, "bob", 2, drop()), (2, "cy", 1, drop()), (9, "bob", 1, drop()), (10, "annb", 1, drop()),
                  (10, "ann", 1, drop())]
        self.assertEqual(
            [(clock, hand) for clock, hand, number, deed in ledger.take(parcel)],
            [(2, "cy"), (9, "bob"), (10, "ann"), (10, "annb"), (10, "bob")])

    def test_deeds_several_times(self):
        ledger = Ledger("ann")
        self.assertEqual(ledger.take(self.SOUND + self.SOUND[::-1] + self.SOUND[1:3]), by_stamp(self.SOUND))
        self.assert_has(ledger, self.SOUND)

    def test_some_that_are_there_already(self):
        ledger = self.ledger_with(self.SOUND)
        self.assertEqual(ledger.take(self.SOUND), [])
        self.assertEqual(ledger.take(self.SOUND[2:3]), [])
        more = [(5, "bob", 4, drop()), (9, "ann", 3, put("ann2"))]
        self.assertEqual(ledger.take(self.SOUND[1:] + more + self.SOUND), more)
        self.assert_has(ledger, self.SOUND + more)

    def test_each_by_itself(self):
        ledger = Ledger("dan")
        for k, stamped in enumerate(self.SOUND, start=1):
            self.assertEqual(ledger.take([stamped]), [stamped])
            self.assert_has(ledger, self.SOUND[:k])

    def test_of_its_own_hand(self):
        ledger = Ledger("bob")
        ledger.do(put("bob1"))
        told = [(1, "bob", 1, put("bob1")), (2, "bob", 2, drop()), (5, "bob", 3, put("bob2"))]
        self.assertEqual(ledger.take(told), told[1:])
        self.assert_has(ledger, told)

    def test_clocks_of_several_hands_need_not_rise(self):
        ledger = self.ledger_with([(50, "bob", 1, drop())])
        self.assertEqual(ledger.take([(3, "cy", 1, drop())]), [(3, "cy", 1, drop())])
        self.assert_has(ledger, [(3, "cy", 1, drop()), (50, "bob", 1, drop())])

    def test_one_clock_of_several_hands(self):
        self.ledger_with([(1, "bob", 1, drop()), (1, "ann", 1, drop()), (1, "cy", 1, drop())])

    def test_names_of_a_hand_that_begins_like_another(self):
        self.ledger_with([(1, "a", 1, put("a1")), (1, "ann", 1, put("ann1")), (1, "anna", 1, put("anna1"))])

    def test_many_puts_of_a_hand(self):
        self.ledger_with([(k, "bob", k, put(f"bob{k}")) for k in range(1, 121)])


class RefusedTest(LedgerCase):

    THERE = [(2, "bob", 1, put("bob1")), (4, "bob", 2, drop("x")), (6, "bob", 3, put("bob2")), (3, "ann", 1, drop())]
    NEXT = (7, "bob", 4, put("bob3"))

    def assert_each_refused(self, parcels, good=()):
        """Each refused, alone and with sound ones around it; and what is sound is taken behind."""
        other = [(8, "cy", 1, put("cy1")), (9, "cy", 2, drop())]
        for parcel in parcels:
            with self.subTest(parcel=parcel):
                for whole in (parcel, parcel + other, other + parcel, self.THERE + parcel, parcel[::-1],
                              parcel + parcel, other[:1] + parcel + other[1:] + self.THERE):
                    ledger = self.ledger_with(self.THERE)
                    self.assert_refused(ledger, whole)
                    for good_one in (self.NEXT,) + tuple(good):
                        self.assertEqual(ledger.take([good_one]), [good_one])
                    self.assertEqual(ledger.take(other), other)

    def test_what_is_no_list(self):
        ledger = self.ledger_with(self.THERE)
        for thing in ["", "parcel", (self.NEXT,), tuple(self.THERE), self.NEXT, {1: self.NEXT}, {self.NEXT},
                      iter([self.NEXT])]:
            self.assert_refused(ledger, thing)
        for thing in NO_TEXTS:
            if thing != []:
                self.assert_refused(ledger, thing)
        self.assertEqual(ledger.take([self.NEXT]), [self.NEXT])

    def test_one_thing_that_is_no_stamped_deed(self):
        wrong = [
            self.NEXT[:3], self.NEXT + (1,), list(self.NEXT), [self.NEXT], self.NEXT[3], "drop",
            (0, "bob", 4, drop()), (True, "bob", 4, drop()), ("7", "bob", 4, drop()), (7, "Bob", 4, drop()),
            (7, "bob", 0, drop()), (7, "bob", -1, drop()), (7, "bob", "4", drop()), (7, "bob", 4, ("drop",)),
            (7, "bob", 4, ["drop", "x"]), (7, "bob", 4, ("mark", "x", "a", 1)), (7, "bob", 4, None),
            (7, "bob", 4, ("put", "bob3", PARTS[1:])), (1, "cy", True, drop()), (7, 5, 4, drop()),
        ]
        self.assert_each_refused([[thing] for thing in wrong])
        ledger = self.ledger_with(self.THERE)
        for thing in NO_TEXTS:
            for parcel in ([thing], [self.NEXT, thing], [thing, self.NEXT], self.THERE + [thing]):
                self.assert_refused(ledger, parcel)

    def test_gaps(self):
        self.assert_each_refused([
            [(7, "bob", 5, drop())], [(9, "bob", 6, drop()), (7, "bob", 4, drop())], [(7, "bob", 104, drop())],
            [(7, "dan", 2, drop())], [(7, "dan", 1, drop()), (9, "dan", 3, drop())], [(1, "dan", 1000, drop())],
            [(7, "ann", 3, drop())], [(7, "dan", 2, drop()), (8, "dan", 3, drop())],
        ])

    def test_a_gap_that_is_filled_by_what_is_there(self):
        ledger = self.ledger_with(self.THERE[:2])
        self.assert_refused(ledger, [self.NEXT])
        self.assertEqual(ledger.take([self.NEXT, self.THERE[2]]), [self.THERE[2], self.NEXT])

    def test_two_that_are_not_alike_within_the_parcel(self):
        for other in ((8, "bob", 4, put("bob3")), (7, "bob", 4, drop()), (7, "bob", 4, put("bob3", "Other")),
                      (7, "bob", 4, ("put", "bob3", PARTS[:3] + (13, "")))):
            ledger = self.ledger_with(self.THERE)
            self.assert_refused(ledger, [self.NEXT, other])
            self.assert_refused(ledger, [other, self.NEXT])
            self.assert_refused(ledger, [other, self.NEXT, self.NEXT])
            self.assertEqual(ledger.take([self.NEXT]), [self.NEXT])
        marks = [(7, "bob", 4, ("mark", "x", "a", True)), (7, "bob", 4, ("mark", "x", "a", False))]
        self.assert_each_refused([marks])

    def test_two_that_are_not_alike_against_what_is_there(self):
        self.assert_each_refused([
            [(3, "bob", 1, put("bob1"))], [(1, "bob", 1, put("bob1"))], [(2, "bob", 1, put("bob1", "Other"))],
            [(2, "bob", 1, drop("x"))], [(4, "bob", 2, drop("y"))], [(5, "bob", 2, drop("x"))],
            [(4, "bob", 2, ("place", "x", "y"))], [(5, "bob", 3, put("bob2"))], [(6, "bob", 3, put("bob3"))],
            [(4, "ann", 1, drop())], [(3, "ann", 1, drop("y"))],
        ])

    def test_clocks_that_do_not_rise(self):
        self.assert_each_refused([
            [(6, "bob", 4, drop())], [(5, "bob", 4, drop())], [(1, "bob", 4, drop())],
            [(7, "bob", 4, drop()), (7, "bob", 5, drop())], [(8, "bob", 4, drop()), (7, "bob", 5, drop())],
            [(3, "ann", 2, drop())], [(1, "ann", 2, drop())],
            [(5, "dan", 1, drop()), (5, "dan", 2, drop())], [(5, "dan", 1, drop()), (4, "dan", 2, drop())],
            [(5, "dan", 1, drop()), (6, "dan", 2, drop()), (6, "dan", 3, drop())],
            [(5, "dan", 1, drop()), (9, "dan", 2, drop()), (6, "dan", 3, drop())],
        ])

    def test_puts_of_another_name(self):
        self.assert_each_refused([
            [(7, "bob", 4, put("bob2"))], [(7, "bob", 4, put("bob4"))], [(7, "bob", 4, put("bob1"))],
            [(7, "bob", 4, put("ann3"))], [(7, "bob", 4, put("bob03"))], [(7, "bob", 4, put("bob"))],
            [(7, "bob", 4, put("bobb3"))], [(7, "bob", 4, put("3"))], [(7, "bob", 4, put("bob0"))],
            [(7, "ann", 2, put("ann2"))], [(7, "ann", 2, put("bob1"))], [(7, "ann", 2, put("bob3"))],
            [(7, "dan", 1, put("dan2"))], [(7, "dan", 1, put("dan0"))], [(7, "dan", 1, put("cy1"))],
            [(7, "dan", 1, drop()), (8, "dan", 2, put("dan2"))],
            [(7, "dan", 1, put("dan1")), (8, "dan", 2, put("dan1"))],
            [(7, "dan", 1, put("dan2")), (8, "dan", 2, put("dan1"))],
            [(7, "dan", 1, put("dan1")), (8, "dan", 2, put("dan3"))],
        ])

    def test_the_parcel_that_makes_it_good(self):
        ledger = Ledger("ann")
        for wrong, good in (
            ([(1, "bob", 1, put("bob2"))], [(1, "bob", 1, put("bob1"))]),
            ([(3, "bob", 3, drop())], [(3, "bob", 3, drop()), (2, "bob", 2, put("bob2"))]),
            ([(3, "bob", 4, drop())], [(4, "bob", 4, drop())]),
            ([(5, "bob", 5, drop()), (5, "bob", 5, drop("y"))], [(5, "bob", 5, drop("y"))]),
            ([(6, "bob", 6, ("drop", "X"))], [(6, "bob", 6, ("drop", "x"))]),
            (((7, "bob", 7, drop()),), [(7, "bob", 7, drop())]),
        ):
            self.assert_refused(ledger, wrong)
            self.assertEqual(ledger.take(good), by_stamp(good))
        self.assertEqual(ledger.have(), {"bob": 7})
        self.assertEqual(ledger.do(put("ann1")), (8, "ann", 1, put("ann1")))

    def test_what_is_refused_gives_no_clock(self):
        ledger = Ledger("ann")
        self.assert_refused(ledger, [(90, "bob", 1, drop()), (95, "bob", 3, drop())])
        self.assertEqual(ledger.do(drop())[0], 1)


class ToldTest(LedgerCase):

    PARCEL = [(k, "bob", k, put(f"bob{k}")) for k in range(1, 6)] + [(k * 2, "cy", k, drop()) for k in range(1, 5)]

    def test_to_one_who_has_some(self):
        ledger = self.ledger_with(self.PARCEL)
        ledger.do(drop())
        whole = self.PARCEL + [(9, "ann", 1, drop())]
        for bob, cy, ann in itertools.product(range(8), range(6), range(3)):
            wanted = [stamped for stamped in whole if stamped[2] > {"bob": bob, "cy": cy, "ann": ann}[stamped[1]]]
            have = {"bob": bob, "cy": cy, "ann": ann}
            self.assertEqual(ledger.told(have), by_stamp(wanted))
            self.assertEqual(have, {"bob": bob, "cy": cy, "ann": ann})

    def test_hands_that_it_lacks_and_hands_that_it_names_too_many(self):
        ledger = self.ledger_with(self.PARCEL)
        self.assertEqual(ledger.told({}), by_stamp(self.PARCEL))
        self.assertEqual(ledger.told({"cy": 4}), self.PARCEL[:5])
        self.assertEqual(ledger.told({"cy": 4, "dan": 7, "z": 0}), self.PARCEL[:5])
        self.assertEqual(ledger.told({"bob": 100, "cy": 100}), [])
        self.assertEqual(ledger.told(ledger.have()), [])
        self.assertEqual(ledger.told({"dan": 1}), by_stamp(self.PARCEL))

    def test_one_clock_of_several_hands(self):
        parcel = [(5, hand, 1, drop()) for hand in ("cy", "ann", "bob", "annb")]
        ledger = self.ledger_with(parcel)
        self.assertEqual([stamped[1] for stamped in ledger.told()], ["ann", "annb", "bob", "cy"])
        self.assertEqual([stamped[1] for stamped in ledger.told({"annb": 1})], ["ann", "bob", "cy"])

    def test_stamps_rise_as_numbers(self):
        parcel = [(k, "bob", k, drop()) for k in range(1, 13)]
        self.assertEqual(self.ledger_with(parcel).told({"bob": 8}), parcel[8:])


class OwnerTest(LedgerCase):

    def test_parcels_handed_in_may_be_changed(self):
        parcel = [(2, "bob", 2, drop()), (1, "bob", 1, put("bob1"))]
        ledger = Ledger("ann")
        ledger.take(parcel)
        self.assertEqual(parcel, [(2, "bob", 2, drop()), (1, "bob", 1, put("bob1"))])
        spoil(parcel)
        self.assert_has(ledger, [(1, "bob", 1, put("bob1")), (2, "bob", 2, drop())])

    def test_what_is_told_is_the_askers_own(self):
        sound = [(1, "bob", 1, drop()), (2, "bob", 2, drop())]
        ledger = Ledger("ann")
        for ask in (lambda: ledger.take(list(sound)), lambda: ledger.take(list(sound)), ledger.told, ledger.have,
                    lambda: ledger.told({"bob": 1}), lambda: ledger.told({"bob": 2}), lambda: ledger.told({})):
            spoil(ask())
            self.assert_has(ledger, sound)
        self.assertEqual(Ledger("bob").have(), {})

    def test_what_is_told_stays_as_it_was(self):
        ledger = self.ledger_with([(1, "bob", 1, drop())])
        told = (ledger.have(), ledger.told())
        ledger.do(drop())
        ledger.take([(2, "bob", 2, drop())])
        self.assertEqual(told, ({"bob": 1}, [(1, "bob", 1, drop())]))

    def test_the_dict_handed_in_may_be_changed(self):
        ledger = self.ledger_with([(1, "bob", 1, drop()), (2, "bob", 2, drop())])
        have = {"bob": 1}
        self.assertEqual(ledger.told(have), [(2, "bob", 2, drop())])
        have["bob"] = 0
        have["ann"] = 9
        self.assert_has(ledger, [(1, "bob", 1, drop()), (2, "bob", 2, drop())])
        self.assertEqual(ledger.do(drop())[:3], (3, "ann", 1))

    def test_ledgers_have_nothing_in_common(self):
        one, other = Ledger("ann"), Ledger("bob")
        one.do(drop())
        self.assert_has(other, [])
        other.take(one.told())
        one.do(drop())
        self.assert_has(other, [(1, "ann", 1, drop())])

    def test_kinds(self):
        ledger = self.ledger_with([(1, "bob", 1, drop())])
        self.assertIs(type(ledger.do(drop())), tuple)
        self.assertIs(type(ledger.have()), dict)
        self.assertIs(type(ledger.told()), list)
        self.assertIs(type(ledger.take([])), list)


class MeetTest(LedgerCase):

    def do_some(self, ledger, chance):
        for k in range(chance.randrange(4)):
            puts = sum(1 for stamped in ledger.told() if stamped[1] == ledger.hand and stamped[3][0] == "put")
            ledger.do(chance.choice([put(f"{ledger.hand}{puts + 1}"), drop("bob1"), ("place", "ann1", "home"),
                                     ("mark", "ann1", "seen", chance.random() < 0.5)]))

    def tell(self, one, other, chance):
        """One tells the other, as a whole or to what it has, in any order, in two parts, or twice."""
        parcel = one.told(other.have() if chance.random() < 0.5 else None)
        before = other.told()
        if chance.random() < 0.4:
            cut = chance.randrange(len(parcel) + 1)
            new = other.take(parcel[:cut]) + other.take(parcel[cut:])
        else:
            chance.shuffle(parcel)
            new = other.take(parcel + chance.choices(parcel, k=2) if parcel else parcel)
        self.assertEqual(new, by_stamp(set(parcel) - set(before)))
        self.assert_has(other, list(set(before) | set(parcel)))

    def test_ledgers_that_meet_in_any_order(self):
        chance = random.Random(54)
        for again in range(40):
            ledgers = [Ledger(hand) for hand in ("ann", "annb", "bob", "cy")]
            for step in range(25):
                self.do_some(chance.choice(ledgers), chance)
                one, other = chance.sample(ledgers, 2)
                self.tell(one, other, chance)
            for one, other in itertools.product(ledgers, ledgers):
                other.take(one.told(other.have()))
            for one, other in itertools.product(ledgers, ledgers):
                other.take(one.told(other.have()))
            whole = ledgers[0].told()
            for ledger in ledgers:
                self.assert_has(ledger, whole)
                self.assertEqual(ledger.take(whole), [])

    def test_2000_deeds_of_8_hands(self):
        hands = ["ann", "bob", "cy", "dan", "eve", "fay", "gus", "hal"]
        ledgers = [Ledger(hand) for hand in hands]
        for k in range(250):
            for ledger in ledgers:
                ledger.do(put(f"{ledger.hand}{k // 10 + 1}") if k % 10 == 0 else drop())
        for ledger in ledgers:
            for other in ledgers:
                other.take(ledger.told(other.have()))
        whole = ledgers[0].told()
        self.assertEqual(len(whole), 2000)
        for ledger in ledgers:
            self.assert_has(ledger, whole)
            self.assertEqual(ledger.do(put(f"{ledger.hand}26")), (251, ledger.hand, 251, put(f"{ledger.hand}26")))

    def test_2000_deeds_of_one_hand(self):
        ledger = Ledger("ann")
        for k in range(2000):
            ledger.do(put(f"ann{k // 10 + 1}") if k % 10 == 0 else drop())
        other = Ledger("bob")
        self.assertEqual(other.take(ledger.told()[::-1]), ledger.told())
        self.assertEqual(other.have(), {"ann": 2000})


if __name__ == "__main__":
    unittest.main()
