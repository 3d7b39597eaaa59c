import itertools
import unittest

from sackloads.endless import before, endless_load, endless_worth, lead, start
from sackloads.errors import NoNumber, NoStore, NotEndless, TooMany
from sackloads.shares import whole_bound
from sackloads.stores import fits, is_load, worth
from sackloads.tables import best_worth, best_worths
from tests.plain import best_of, endless_bests, endless_stores, lead_of, start_of
from tests.things import BIG, NOT_ENDLESS, STORE, TOO_HEAVY, no_counts, no_stores
from tests.told import Told

STORE_ASKED = [lead, start, before]
ROOM_ASKED = [endless_worth, endless_load]
SIX_NINE = ((6, 11, None), (9, 16, None), (20, 35, None))
GREAT = ((7, BIG, None), (13, BIG - 1, None), (20, BIG, None), (1, 1, None))
TWELVE_ENDLESS = tuple((20 - place, 3 * (20 - place) + place % 4, None) for place in range(12))
LATE = ((20, 21, None), (19, 19, None))
MORE_STORES = [
    SIX_NINE, GREAT, TWELVE_ENDLESS, LATE, ((20, 1, None),), ((1, 0, None),), ((20, 0, None), (3, 0, None)),
    ((19, 40, None), (20, 42, None), (17, 35, None)), ((5, 7, None), (3, 4, None), (8, 11, None)),
    ((20, 40, None), (13, 25, None), (11, 21, None), (7, 12, None), (2, 3, None)), ((4, 9, None),) * 12,
    ((20, BIG, None), (19, BIG - BIG // 20, None), (18, 1, None)),
]


def each_store():
    return itertools.chain(endless_stores(), MORE_STORES)


class Lead(Told):
    def test_against_fractions(self):
        for store in each_store():
            with self.subTest(store=store):
                self.same(lead(store), lead_of(store))

    def test_the_greatest_worth_by_weight(self):
        self.same(lead(((2, 3, None),)), 0)
        self.same(lead(((2, 3, None), (3, 5, None), (5, 8, None))), 1)
        self.same(lead(((20, 39, None), (1, 2, None), (19, 37, None))), 1)
        self.same(lead(((20, BIG, None), (19, BIG - BIG // 20 - 1, None))), 0)

    def test_of_like_ones_the_lesser_weight_then_the_lesser_place(self):
        self.same(lead(((4, 6, None), (2, 3, None), (6, 9, None))), 1)
        self.same(lead(((6, 9, None), (4, 6, None), (2, 3, None), (2, 3, None))), 2)
        self.same(lead(((2, 3, None),) * 12), 0)
        self.same(lead(((1, 1, None), (20, 30, None), (2, 3, None), (4, 6, None), (2, 3, None))), 2)

    def test_worths_of_0(self):
        self.same(lead(((4, 0, None), (2, 0, None), (3, 0, None))), 1)
        self.same(lead(((4, 0, None), (4, 0, None))), 0)
        self.same(lead(((1, 0, None), (20, 1, None))), 1)


class StartAndBefore(Told):
    def test_against_best_worths(self):
        for store in each_store():
            with self.subTest(store=store):
                wanted = start_of(store)
                self.same(start(store), wanted)
                self.same(before(store), endless_bests(store, wanted)[:wanted])

    def test_below_it_against_all_loads(self):
        for store in endless_stores():
            if len(store) < 3:
                with self.subTest(store=store):
                    self.same(before(store), [best_of(store, room) for room in range(start_of(store))])

    def test_some(self):
        self.same(start(((1, 5, None),)), 1)
        self.same(before(((1, 5, None),)), [0])
        self.same(start(((20, 5, None),)), 20)
        self.same(before(((20, 5, None),)), [0] * 20)
        # In the room 4 two of weight 2 are better than one of 3.
        self.same(start(((3, 5, None), (2, 3, None))), 5)
        self.same(before(((3, 5, None), (2, 3, None))), [0, 0, 3, 5, 6])
        self.same(start(SIX_NINE), 30)
        self.same(before(SIX_NINE)[24:], [44, 44, 46, 49, 49, 51])
        # Nineteen of weight 19 are the best for the room 361: no lead is in it.
        self.same(start(((20, 2000, None), (19, 1899, None))), 362)
        self.same(before(((20, 2000, None), (19, 1899, None)))[360:], [18 * 2000, 19 * 1899])

    def test_no_less_than_the_weight_of_the_lead(self):
        # Nothing has a worth, so it goes in rounds from there on at once.
        self.same(start(((7, 0, None), (9, 0, None))), 7)
        self.same(before(((7, 0, None), (9, 0, None))), [0] * 7)
        for store in each_store():
            weight = store[lead(store)][0]
            self.assertGreaterEqual(start(store), weight)
            self.assertLessEqual(start(store), weight + (weight - 1) * max(kind[0] for kind in store))

    def test_the_least_such_room(self):
        for store in each_store():
            first = start(store)
            weight, gain, most = store[lead(store)]
            bests = endless_bests(store, first + 3 * weight)
            for room in range(first, first + 3 * weight):
                self.assertEqual(bests[room], bests[room - weight] + gain)
            if first > weight:
                self.assertNotEqual(bests[first - 1], bests[first - 1 - weight] + gain)

    def test_a_told_list_is_the_askers_own(self):
        for store in [SIX_NINE, GREAT, ((1, 5, None),)]:
            told = before(store)
            kept = list(told)
            told[0] = "changed"
            told.append(77)
            self.same(before(store), kept)
            told.clear()
            self.same(before(store), kept)
            self.same(start(store), len(kept))
            self.same(endless_worth(store, len(kept) - 1), kept[-1])
            self.assertIsNot(before(store), before(store))


class WorthAndLoad(Told):
    def has(self, store, room, wanted):
        with self.subTest(store=store, room=room):
            self.same(endless_worth(store, room), wanted)
            load = endless_load(store, room)
            self.assertIs(is_load(load, store), True)
            self.assertIs(fits(store, load, room), True)
            self.same(worth(store, load), wanted)

    def test_against_all_loads(self):
        for store in endless_stores():
            for room in range(7):
                self.has(store, room, best_of(store, room))

    def test_against_best_worths(self):
        for store in MORE_STORES:
            for room, wanted in enumerate(endless_bests(store, 460)):
                self.has(store, room, wanted)

    def test_rooms_of_thirty_figures(self):
        for store in each_store():
            weight, gain, most = store[lead_of(store)]
            far = start_of(store)
            bests = endless_bests(store, far + weight)
            for room in [BIG, BIG - 1, BIG - 7, 10 ** 29, 10 ** 40 + 3, 10 ** 15]:
                rounds = (room - far) // weight
                self.has(store, room, bests[room - rounds * weight] + rounds * gain)

    def test_some(self):
        self.has(((1, 1, None),), BIG, BIG)
        self.has(((20, 3, None),), 19, 0)
        self.has(((20, 3, None),), 20, 3)
        self.has(((20, 3, None),), 20 * BIG + 19, 3 * BIG)
        self.has(((1, 0, None), (20, 0, None)), BIG, 0)
        self.has(((2, 3, None), (2, 3, None)), 7, 9)
        self.same(endless_load(((20, 3, None),), 20 * BIG + 19), (BIG,))
        self.same(endless_load(((3, 5, None), (2, 3, None)), 0), (0, 0))


class Refusals(Told):
    def test_no_store_ahead_of_all(self):
        for store in no_stores():
            for asked in STORE_ASKED:
                self.refused(NoStore, asked, store)
            for asked in ROOM_ASKED:
                for room in [5, -1, None]:
                    self.refused(NoStore, asked, store, room)

    def test_no_number_ahead_of_not_endless_and_too_many(self):
        for store in [SIX_NINE, (), STORE, NOT_ENDLESS[1], TOO_HEAVY[0]]:
            for room in no_counts():
                for asked in ROOM_ASKED:
                    self.refused(NoNumber, asked, store, room)

    def test_not_endless_ahead_of_too_many(self):
        for store in NOT_ENDLESS:
            for asked in STORE_ASKED:
                self.refused(NotEndless, asked, store)
            for asked in ROOM_ASKED:
                for room in [0, 5, 201, BIG]:
                    self.refused(NotEndless, asked, store, room)

    def test_too_heavy(self):
        for store in TOO_HEAVY:
            for asked in STORE_ASKED:
                self.refused(TooMany, asked, store)
            for asked in ROOM_ASKED:
                for room in [0, 5, 201, BIG]:
                    self.refused(TooMany, asked, store, room)
        for store in [((20, 5, None),), ((1, 5, None), (20, 5, None)), ((20, BIG, None),) * 12]:
            for asked in STORE_ASKED:
                asked(store)
            for asked in ROOM_ASKED:
                asked(store, 201)


class NothingIsChanged(Told):
    def test_what_was_handed_in_is_the_same_and_so_is_the_answer(self):
        for store in [SIX_NINE, GREAT, TWELVE_ENDLESS, STORE, TOO_HEAVY[0], ()] + no_stores():
            for asked in STORE_ASKED:
                self.nothing_changes(asked, [store])
            for asked in ROOM_ASKED:
                for room in [0, 7, BIG, None]:
                    self.nothing_changes(asked, [store, room])
        for thing in no_counts():
            for asked in ROOM_ASKED:
                self.nothing_changes(asked, [SIX_NINE, thing])


class WhatFollows(Told):
    def test_the_same_as_by_tables(self):
        for store in MORE_STORES:
            for room, best in enumerate(best_worths(store, 70)):
                self.same(endless_worth(store, room), best)
            self.same(endless_worth(store, 200), best_worth(store, 200))

    def test_no_more_than_the_shares(self):
        for store in each_store():
            for room in [0, 1, 19, 77, BIG]:
                self.assertLessEqual(endless_worth(store, room), whole_bound(store, room))

    def test_with_more_room_or_one_kind_more_the_best_is_no_less(self):
        rooms = list(range(60)) + [BIG - 2, BIG - 1, BIG]
        for store in MORE_STORES:
            told = [endless_worth(store, room) for room in rooms]
            self.assertEqual(told, sorted(told))
            for kind in [(1, 0, None), (3, 5, None), (20, 45, None)]:
                if len(store) < 12:
                    for room, less in zip(rooms[::9], told[::9]):
                        self.assertGreaterEqual(endless_worth(store + (kind,), room), less)
                        self.assertGreaterEqual(endless_worth((kind,) + store, room), less)


if __name__ == "__main__":
    unittest.main()
