import itertools
import math
import unittest

from sackloads.errors import NoNumber, NoStore, NotEndless, TooMany
from sackloads.full import (
    all_filled, fill, filled, fills_many, least_filling, most_filling, never_filled, never_many,
)
from sackloads.stores import is_load, weight, worth
from sackloads.tables import best_worth, best_worths, loads_many
from tests.plain import all_that_fill, comes_to, endless_stores, rooms_filled, some_stores
from tests.things import BIG, NOT_ENDLESS, STORE, TOO_HEAVY, TWELVE, no_counts, no_stores
from tests.told import Told

ROOM_ASKED = [filled, all_filled, fills_many, most_filling, least_filling, fill]
STORE_ASKED = [never_filled, never_many]
ROOMS = range(8)
GREAT = ((BIG, BIG, BIG), (BIG - 1, BIG - 1, None), (1, BIG, BIG), (1, BIG - 1, None), (2, 2 * BIG, 1))
NUGGETS = ((6, 1, None), (9, 1, None), (20, 1, None))
MORE_STORES = [
    NUGGETS, ((20, 1, None), (19, 1, None)), ((20, 1, None), (15, 1, None), (12, 1, None)), ((13, 5, None),) * 12,
    tuple((20 - place, place, None) for place in range(12)), ((17, 0, None), (20, 0, None)), ((1, 0, None),),
    ((18, 1, None), (20, 1, None)), ((6, 1, None), (10, 1, None), (15, 1, None)), ((2, 1, None), (3, 1, None)),
]


class AgainstAllLoads(Told):
    def test_which_rooms_and_how_many_loads(self):
        for store in some_stores():
            many = [len(all_that_fill(store, room)) for room in ROOMS]
            for room in ROOMS:
                with self.subTest(store=store, room=room):
                    self.same(fills_many(store, room), many[room])
                    self.same(filled(store, room), many[room] > 0)
                    self.same(all_filled(store, room), [size for size in range(room + 1) if many[size] > 0])

    def test_the_greatest_and_the_least_worth(self):
        for store in some_stores():
            for room in ROOMS:
                with self.subTest(store=store, room=room):
                    filling = all_that_fill(store, room)
                    worths = [comes_to(store, load, 1) for load in filling]
                    most = max(worths, default=None)
                    self.same(most_filling(store, room), most)
                    self.same(least_filling(store, room), min(worths, default=None))
                    first = min([load for load in filling if comes_to(store, load, 1) == most], default=None)
                    self.same(fill(store, room), first)


class JustFull(Told):
    def test_the_room_0_is_always_filled(self):
        for store in [(), STORE, TWELVE, GREAT, ((5, 9, 0),)]:
            self.same(filled(store, 0), True)
            self.same(all_filled(store, 0), [0])
            self.same(fills_many(store, 0), 1)
            self.same(most_filling(store, 0), 0)
            self.same(least_filling(store, 0), 0)
            self.same(fill(store, 0), (0,) * len(store))

    def test_rooms_that_no_load_fills(self):
        for store, room in [((), 1), ((), 200), (((3, 5, 2),), 4), (((3, 5, 2),), 9), (((3, 5, 0),), 3),
                            (((7, 1, 3), (9, 5, None)), 6), (((2, 1, None), (4, 1, None)), 199)]:
            self.same(filled(store, room), False)
            self.same(fills_many(store, room), 0)
            self.same(most_filling(store, room), None)
            self.same(least_filling(store, room), None)
            self.same(fill(store, room), None)
            self.assertNotIn(room, all_filled(store, room))
        self.same(all_filled((), 5), [0])
        self.same(all_filled(((3, 5, 2),), 12), [0, 3, 6])
        self.same(all_filled(((3, 5, None), (5, 1, 1)), 12), [0, 3, 5, 6, 8, 9, 11, 12])

    def test_a_worth_of_0_is_a_worth(self):
        store = ((2, 0, None), (3, 0, None))
        self.same(most_filling(store, 7), 0)
        self.same(least_filling(store, 7), 0)
        self.same(fill(store, 7), (2, 1))
        self.same(fill(store, 6), (0, 2))

    def test_the_first_of_several_with_the_greatest_worth(self):
        self.same(fill(((2, 2, None), (1, 1, None)), 5), (0, 5))
        self.same(fill(((2, 2, 1), (2, 2, 1), (2, 2, 1)), 4), (0, 1, 1))
        self.same(fill(((3, 5, 2), (3, 5, 2)), 9), (1, 2))
        # Worth less ahead as tuples are ordered is not told, nor one worth more that does not fill.
        self.same(fill(((2, 5, 1), (1, 1, 2)), 2), (1, 0))
        self.same(fill(((3, 1, None), (2, 9, None)), 3), (1, 0))
        self.same(most_filling(((3, 1, None), (2, 9, None)), 3), 1)
        self.same(least_filling(((2, 5, 1), (1, 1, 2)), 2), 2)

    def test_the_room_two_hundred(self):
        store = ((1, 1, None),) * 12
        self.same(fills_many(store, 200), math.comb(211, 11))
        self.same(all_filled(store, 200), list(range(201)))
        self.same(most_filling(store, 200), 200)
        self.same(fill(store, 200), (0,) * 11 + (200,))
        self.same(all_filled(((7, 1, None),), 200), list(range(0, 201, 7)))
        self.same(fill(((199, 5, 1), (1, 1, None)), 200), (0, 200))
        self.same(least_filling(((199, 5, 1), (1, 1, None)), 200), 6)

    def test_thirty_figures(self):
        self.same(most_filling(GREAT, 3), 3 * BIG)
        self.same(least_filling(GREAT, 3), 3 * BIG - 3)
        self.same(fill(GREAT, 3), (0, 0, 1, 0, 1))
        self.same(all_filled(((BIG, BIG, None),), 200), [0])


class NeverFilled(Told):
    def test_against_all_rooms(self):
        for store in list(endless_stores()) + MORE_STORES:
            with self.subTest(store=store):
                divisor = math.gcd(*[kind[0] for kind in store])
                full = rooms_filled(store, 900)
                never = [room for room in range(900) if room not in full]
                if divisor > 1:
                    self.same(never_filled(store), ("ever", divisor))
                    self.same(never_many(store), None)
                    self.assertEqual({room % divisor for room in full}, {0})
                else:
                    self.same(never_filled(store), ("last", max(never)) if never else ("none",))
                    self.same(never_many(store), len(never))

    def test_a_divisor_above_1(self):
        self.same(never_filled(((2, 1, None),)), ("ever", 2))
        self.same(never_filled(((20, 1, None),)), ("ever", 20))
        self.same(never_filled(((6, 1, None), (9, 1, None), (12, 0, None))), ("ever", 3))
        self.same(never_filled(((8, 1, None), (12, 1, None), (20, 1, None), (16, 1, None))), ("ever", 4))
        for store in [((2, 1, None),), ((20, 1, None),) * 12, ((6, 1, None), (9, 1, None))]:
            self.same(never_many(store), None)

    def test_a_weight_of_1(self):
        for store in [((1, 0, None),), ((1, 5, None), (20, 1, None)), ((20, 1, None), (7, 1, None), (1, 1, None))]:
            self.same(never_filled(store), ("none",))
            self.same(never_many(store), 0)

    def test_two_unlike_weights(self):
        for one, other in itertools.combinations(range(2, 21), 2):
            store = ((one, 3, None), (other, 0, None))
            if math.gcd(one, other) == 1:
                self.same(never_filled(store), ("last", one * other - one - other))
                self.same(never_filled(store[::-1]), ("last", one * other - one - other))
                self.same(never_many(store), (one - 1) * (other - 1) // 2)
        self.same(never_filled(((20, 1, None), (19, 1, None))), ("last", 341))

    def test_some(self):
        self.same(never_filled(NUGGETS), ("last", 43))
        self.same(never_many(NUGGETS), 22)
        self.same(never_filled(((6, 1, None), (10, 1, None), (15, 1, None))), ("last", 29))
        self.same(never_filled(((2, 1, None), (3, 1, None))), ("last", 1))
        self.same(never_many(((2, 1, None), (3, 1, None))), 1)
        self.same(never_filled(((3, 1, None), (3, 1, None), (5, 2, None))), ("last", 7))


class Refusals(Told):
    def test_no_store_ahead_of_all(self):
        for store in no_stores():
            for asked in ROOM_ASKED:
                for room in [5, 201, -1, None]:
                    self.refused(NoStore, asked, store, room)
            for asked in STORE_ASKED:
                self.refused(NoStore, asked, store)

    def test_no_number_ahead_of_too_many(self):
        for room in no_counts() + [-201]:
            for asked in ROOM_ASKED:
                for store in [STORE, (), TWELVE]:
                    self.refused(NoNumber, asked, store, room)

    def test_two_hundred_and_one(self):
        for asked in ROOM_ASKED:
            for store in [STORE, (), TWELVE, GREAT, ((BIG, BIG, 0),), NUGGETS]:
                asked(store, 200)
                for room in [201, 202, 1000, BIG, 10 ** 40]:
                    self.refused(TooMany, asked, store, room)

    def test_not_endless_ahead_of_too_many(self):
        for asked in STORE_ASKED:
            for store in NOT_ENDLESS:
                self.refused(NotEndless, asked, store)

    def test_too_heavy(self):
        for asked in STORE_ASKED:
            for store in TOO_HEAVY:
                self.refused(TooMany, asked, store)
            asked(((20, 5, None),))
            asked(((1, 5, None), (20, 5, None)))

    def test_stores_that_are_not_endless_and_heavy_ones_may_be_asked_for_a_room(self):
        for store in NOT_ENDLESS + TOO_HEAVY:
            for asked in ROOM_ASKED:
                asked(store, 9)


class NothingIsChanged(Told):
    def test_what_was_handed_in_is_the_same_and_so_is_the_answer(self):
        for asked in ROOM_ASKED:
            for store in [(), STORE, TWELVE, GREAT]:
                for room in [0, 7, 200, 201]:
                    self.nothing_changes(asked, [store, room])
            for thing in no_stores() + no_counts():
                self.nothing_changes(asked, [thing, 5])
                self.nothing_changes(asked, [STORE, thing])
        for asked in STORE_ASKED:
            for store in [NUGGETS, STORE, ((21, 1, None),)] + no_stores():
                self.nothing_changes(asked, [store])

    def test_a_told_list_is_the_askers_own(self):
        for store in [(), STORE, TWELVE, NUGGETS]:
            told = all_filled(store, 30)
            kept = list(told)
            told[0] = "changed"
            told.append(77)
            self.same(all_filled(store, 30), kept)
            told.clear()
            self.same(all_filled(store, 30), kept)
            self.same(filled(store, 30), 30 in kept)
            self.assertIsNot(all_filled(store, 30), all_filled(store, 30))


class WhatFollows(Told):
    def test_with_weights_as_worths_the_best_worth_is_the_greatest_room_filled(self):
        for store in some_stores():
            by_weight = tuple((kind[0], kind[0], kind[2]) for kind in store)
            for room, best in enumerate(best_worths(by_weight, 25)):
                self.same(best, all_filled(store, room)[-1])
        for store in [NUGGETS, STORE, TWELVE]:
            by_weight = tuple((kind[0], kind[0], kind[2]) for kind in store)
            self.same(best_worth(by_weight, 200), all_filled(store, 200)[-1])

    def test_each_room_beyond_the_last_is_filled(self):
        for store in list(endless_stores()) + MORE_STORES:
            told = never_filled(store)
            full = all_filled(store, 200)
            if told[0] == "ever":
                self.assertEqual([room for room in full if room % told[1] != 0], [])
            elif told[0] == "none":
                self.assertEqual(full, list(range(201)))
            elif told[1] < 200:
                self.assertNotIn(told[1], full)
                self.assertEqual(full[-(200 - told[1]):], list(range(told[1] + 1, 201)))
                self.assertEqual(201 - len(full), never_many(store))

    def test_the_told_load_fills_and_has_the_told_worth(self):
        for store in some_stores():
            for room in range(12):
                load = fill(store, room)
                self.assertEqual(load is not None, filled(store, room))
                self.assertEqual(room in all_filled(store, room), filled(store, room))
                self.assertEqual(fills_many(store, room) > 0, filled(store, room))
                if load is not None:
                    self.assertIs(is_load(load, store), True)
                    self.assertEqual(weight(store, load), room)
                    self.assertEqual(worth(store, load), most_filling(store, room))
                    self.assertLessEqual(least_filling(store, room), most_filling(store, room))

    def test_against_what_fits(self):
        for store in some_stores():
            fitting = [loads_many(store, room) for room in range(12)]
            filling = [fills_many(store, room) for room in range(12)]
            self.assertEqual(fitting, list(itertools.accumulate(filling)))
            for room, best in enumerate(best_worths(store, 11)):
                worths = [most_filling(store, size) for size in range(room + 1)]
                self.assertEqual(max(most for most in worths if most is not None), best)


if __name__ == "__main__":
    unittest.main()
