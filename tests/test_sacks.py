import itertools
import math
import unittest
from fractions import Fraction

from sackloads.errors import NoLoad, NoNumber, NoStore, NotSingle, TooMany
from sackloads.halves import met_worth
from sackloads.sacks import is_stow, stow_weights, stow_worth, stows_many, two_bound, two_stow, two_worth
from sackloads.tables import best_worth
from tests.plain import (
    all_stows, best_stows, in_both, in_sack, pair, single_stores, stows_that_fit, two_bound_of,
)
from tests.things import BIG, STORE, no_counts, no_prices, no_stores, odd_things
from tests.told import Told

FOUR = ((3, 5, 1), (2, 4, 1), (4, 9, 0), (5, 6, 1))
EIGHT = tuple((2 + place * 5 % 7, 1 + place * 3 % 8, 0 if place == 5 else 1) for place in range(8))
NINE = ((1, 1, 1),) * 9
LIKE = ((2, 3, 1),) * 5
GREAT = tuple((BIG - place * place, BIG - 7 * place, 1) for place in range(5))
NOT_SINGLE = [
    ((1, 1, 2),), ((1, 1, None),), ((1, 1, BIG),), ((1, 0, None), (2, 3, 1)), ((2, 3, 1), (1, 0, 2)), STORE,
    ((1, 1, 1),) * 8 + ((1, 1, 2),), ((1, 1, None),) * 12,
]
TOO_LONG = [NINE, ((1, 1, 1),) * 12, ((1, 1, 0),) * 9, EIGHT + ((3, 3, 0),), EIGHT + FOUR]
PRICES = [(0, 1), (1, 1), (1, 2), (3, 2), (2, 3), (7, 1), (1, BIG), (BIG - 1, BIG)]
ROOM_ASKED = [two_worth, two_stow, stows_many]
STOW_ASKED = [stow_weights, stow_worth]


def some_singles():
    """Of 0 to 3 kinds each, some of 5 to 7, and one of eight with a kind that is there not at all."""
    return [store for store in single_stores() if len(store) != 4] + [FOUR, LIKE, EIGHT]


def no_stows():
    """Things that are no stow of FOUR."""
    return odd_things() + [
        5, "", (), (0, 0, 0), (0, 0, 0, 0, 0), [0, 0, 0, 0], {0: 0, 1: 0, 2: 0, 3: 0}, "0000",
        (3, 0, 0, 0), (0, 3, 0, 0), (0, 0, 0, 3), (BIG, 0, 0, 0), (-1, 0, 0, 0), (0, 0, 0, -1),
        (0, 0, 1, 0), (0, 0, 2, 0), (1, 2, 1, 2), (0, 0, 3, 0), (True, 0, 0, 0), (False, 0, 0, 0), (0, 0, False, 0),
        (0, 0, 0, True), (None, 0, 0, 0), ("1", 0, 0, 0), (0, (1,), 0, 0), (0, [], 0, 0), (0, 0, 0, {}), FOUR, STORE,
    ]


def calls_with(store, one=5, other=3, price=(1, 2), more=(2, 3), stow=(0, 0, 0, 0)):
    calls = [(is_stow, [stow, store])] + [(asked, [store, stow]) for asked in STOW_ASKED]
    return calls + [(asked, [store, one, other]) for asked in ROOM_ASKED] + [
        (two_bound, [store, one, other, price, more]),
    ]


class Stows(Told):
    def test_each_tuple_of_small_numbers(self):
        for store in single_stores():
            if len(store) < 4:
                wanted = all_stows(store)
                for thing in itertools.product(range(-1, 4), repeat=len(store)):
                    self.assertIs(is_stow(thing, store), thing in wanted)

    def test_weights_and_worth(self):
        for store in some_singles():
            for stow in all_stows(store)[::5]:
                self.assertIs(is_stow(stow, store), True)
                self.same(stow_weights(store, stow), (in_sack(store, stow, 1), in_sack(store, stow, 2)))
                self.same(stow_worth(store, stow), in_both(store, stow))

    def test_some(self):
        self.same(is_stow((), ()), True)
        self.same(stow_weights((), ()), (0, 0))
        self.same(stow_worth((), ()), 0)
        self.same(stow_weights(FOUR, (1, 2, 0, 1)), (8, 2))
        self.same(stow_worth(FOUR, (1, 2, 0, 1)), 15)
        self.same(stow_weights(FOUR, (0, 0, 0, 2)), (0, 5))
        self.same(stow_worth(FOUR, (0, 0, 0, 2)), 6)
        self.same(stow_weights(GREAT, (1,) * 5), (sum(kind[0] for kind in GREAT), 0))
        self.same(is_stow((0,) * 8, EIGHT), True)

    def test_no_stows(self):
        for thing in no_stows():
            with self.subTest(thing=thing):
                self.assertIs(is_stow(thing, FOUR), False)
            for asked in STOW_ASKED:
                self.refused(NoLoad, asked, FOUR, thing)

    def test_no_stows_of_other_stores(self):
        for thing in odd_things() + [0, "", (0,), [], {}]:
            self.assertIs(is_stow(thing, ()), False)
            for asked in STOW_ASKED:
                self.refused(NoLoad, asked, (), thing)
        for thing in [(1,), (2,), (False,), (3,), (), (0, 0)]:
            self.assertIs(is_stow(thing, ((1, 1, 0),)), False)
        for thing in [(3,), (True,), (-1,), (), (1, 1), [1]]:
            self.assertIs(is_stow(thing, ((1, 1, 1),)), False)


class TwoSacks(Told):
    def has(self, store, one, other):
        with self.subTest(store=store, one=one, other=other):
            best, stows = best_stows(store, one, other)
            self.same(two_worth(store, one, other), best)
            self.same(two_stow(store, one, other), min(stows))
            self.same(stows_many(store, one, other), len(stows_that_fit(store, one, other)))

    def test_against_all_stows(self):
        for store in single_stores():
            if len(store) < 4:
                for one in range(6):
                    for other in range(6):
                        self.has(store, one, other)

    def test_more_kinds(self):
        for store in [FOUR, LIKE, ((1, 0, 1),) * 6, ((1, 1, 0),) * 8]:
            for one, other in itertools.product([0, 1, 2, 5, 9, BIG], repeat=2):
                self.has(store, one, other)
        for one, other in [(0, 0), (0, 9), (9, 0), (6, 6), (3, 12), (12, 3), (BIG, 5), (BIG, BIG)]:
            self.has(EIGHT, one, other)
        for one, other in [(BIG, BIG - 1), (BIG - 5, 2 * BIG), (3 * BIG, 2 * BIG), (10 ** 40, 0)]:
            self.has(GREAT, one, other)

    def test_some(self):
        self.same(two_worth((), 0, 0), 0)
        self.same(two_stow((), BIG, 0), ())
        self.same(stows_many((), 0, BIG), 1)
        self.same(two_worth(((3, 5, 1),), 2, 3), 5)
        self.same(two_stow(((3, 5, 1),), 2, 3), (2,))
        self.same(two_stow(((3, 5, 1),), 3, 3), (1,))
        self.same(two_stow(((3, 5, 1),), 2, 2), (0,))
        self.same(stows_many(((3, 5, 1),), 3, 3), 3)
        self.same(stows_many(((3, 5, 0),), 3, 3), 1)
        # Both together would fit into one room of 5, but not so parted.
        self.same(two_worth(((3, 5, 1), (2, 4, 1)), 4, 1), 5)
        self.same(stows_many(((1, 1, 1),) * 8, 8, 8), 3 ** 8)

    def test_the_first_of_several(self):
        self.same(two_stow(LIKE, 2, 2), (0, 0, 0, 1, 2))
        self.same(two_stow(LIKE, 4, 2), (0, 0, 1, 1, 2))
        self.same(two_stow(LIKE, 2, 4), (0, 0, 1, 2, 2))
        # What has no worth is left out.
        self.same(two_stow(((1, 0, 1), (1, 1, 1)), 5, 5), (0, 1))
        self.same(two_stow(((1, 3, 1), (2, 3, 1)), 0, 2), (0, 2))

    def test_rooms_exchanged(self):
        for store in some_singles():
            for one, other in [(0, 3), (2, 5), (1, 7), (4, 4), (BIG, 2)]:
                self.same(two_worth(store, one, other), two_worth(store, other, one))
                self.same(stows_many(store, one, other), stows_many(store, other, one))


class TwoBound(Told):
    def test_against_fractions(self):
        for store in [(), FOUR, LIKE, EIGHT, GREAT, ((1, 0, 1),), ((1, 9, 0),)]:
            for one, other in [(0, 0), (5, 3), (3, 5), (BIG, 1), (0, 7)]:
                for price, more in itertools.product(PRICES, repeat=2):
                    with self.subTest(store=store, one=one, other=other, price=price, more=more):
                        wanted = two_bound_of(store, one, other, Fraction(*price), Fraction(*more))
                        self.same(two_bound(store, one, other, price, more), pair(wanted))

    def test_some(self):
        self.same(two_bound((), 0, 0, (0, 1), (0, 1)), (0, 1))
        self.same(two_bound((), 3, 4, (1, 2), (3, 4)), (9, 2))
        self.same(two_bound(FOUR, 5, 3, (0, 1), (0, 1)), (15, 1))
        self.same(two_bound(FOUR, 5, 3, (1, 1), (3, 2)), (29, 2))
        self.same(two_bound(FOUR, 5, 3, (3, 2), (1, 1)), (31, 2))
        self.same(two_bound(FOUR, 5, 3, (2, 1), (2, 1)), (16, 1))
        # Just as much as the price is not more.
        self.same(two_bound(((2, 4, 1),), 0, 0, (2, 1), (2, 1)), (0, 1))
        # A kind that is there not at all brings nothing.
        self.same(two_bound(((4, 9, 0),), 0, 0, (0, 1), (0, 1)), (0, 1))

    def test_no_stow_that_fits_is_worth_more(self):
        for store in some_singles():
            for one, other in [(0, 0), (3, 2), (2, 6), (9, 9)]:
                most = two_worth(store, one, other)
                for price, more in itertools.product(PRICES[:6], repeat=2):
                    top, bottom = two_bound(store, one, other, price, more)
                    self.assertEqual(math.gcd(top, bottom), 1)
                    self.assertGreaterEqual(top, most * bottom)


class Refusals(Told):
    def test_no_store_ahead_of_all(self):
        for store in no_stores():
            for wrong in [{}, {"one": -1}, {"other": None}, {"price": (2, 4)}, {"more": None}, {"stow": None}]:
                for asked, given in calls_with(store, **wrong):
                    self.refused(NoStore, asked, *given)

    def test_no_number_ahead_of_not_single_and_too_many(self):
        for store in [FOUR, (), NOT_SINGLE[0], NINE, NOT_SINGLE[-1]]:
            for room in no_counts():
                for asked, given in calls_with(store, one=room)[3:] + calls_with(store, other=room)[3:]:
                    self.refused(NoNumber, asked, *given)
            for price in no_prices():
                self.refused(NoNumber, two_bound, store, 5, 3, price, (1, 2))
                self.refused(NoNumber, two_bound, store, 5, 3, (1, 2), price)

    def test_not_single_ahead_of_too_many(self):
        for store in NOT_SINGLE:
            for asked, given in calls_with(store) + calls_with(store, one=201, other=BIG, stow=None):
                self.refused(NotSingle, asked, *given)

    def test_nine_kinds(self):
        for store in TOO_LONG:
            for asked, given in calls_with(store) + calls_with(store, one=201, other=BIG, stow=None):
                self.refused(TooMany, asked, *given)
            for asked in STOW_ASKED:
                self.refused(TooMany, asked, store, (0,) * len(store))
            self.refused(TooMany, is_stow, (0,) * len(store), store)
        for asked, given in calls_with(EIGHT, stow=(0,) * 8):
            asked(*given)

    def test_whatever_the_stow_the_store_is_refused_first(self):
        for thing in no_stows():
            for asked in STOW_ASKED:
                self.refused(NoStore, asked, None, thing)
                self.refused(NotSingle, asked, NOT_SINGLE[0], thing)
                self.refused(TooMany, asked, NINE, thing)
            self.refused(NoStore, is_stow, thing, None)
            self.refused(NotSingle, is_stow, thing, NOT_SINGLE[0])
            self.refused(TooMany, is_stow, thing, NINE)

    def test_no_room_is_too_great(self):
        for room in [200, 201, BIG, 10 ** 40]:
            self.same(two_worth(FOUR, room, 0), 15)
            self.same(two_stow(FOUR, 0, room), (2, 2, 0, 2))
            self.same(stows_many(FOUR, room, room), 27)
            self.same(two_bound(FOUR, room, 1, (1, 1), (2, 1)), (room + 7, 1))


class NothingIsChanged(Told):
    def test_what_was_handed_in_is_the_same_and_so_is_the_answer(self):
        for store in [(), FOUR, EIGHT, GREAT, STORE, NINE]:
            for asked, given in calls_with(store, stow=(0,) * len(store)):
                self.nothing_changes(asked, given)
        for thing in no_stores() + no_counts() + no_stows() + no_prices():
            calls = calls_with(thing) + calls_with(FOUR, one=thing) + calls_with(FOUR, other=thing)
            calls += calls_with(FOUR, price=thing)[-1:] + calls_with(FOUR, more=thing)[-1:]
            for asked, given in calls + calls_with(FOUR, stow=thing)[:3]:
                self.nothing_changes(asked, given)


class WhatFollows(Told):
    def test_against_one_room(self):
        for store in some_singles():
            for one, other in [(0, 0), (0, 4), (3, 2), (2, 6), (9, 9)]:
                both = two_worth(store, one, other)
                self.assertLessEqual(both, best_worth(store, one + other))
                self.assertGreaterEqual(both, best_worth(store, one))
                self.assertGreaterEqual(both, best_worth(store, other))
            heavy = sum(kind[0] * kind[2] for kind in store)
            self.same(two_worth(store, heavy, 0), sum(kind[1] * kind[2] for kind in store))
            self.same(two_worth(store, 1, heavy), sum(kind[1] * kind[2] for kind in store))
        for one, other in [(BIG, BIG), (2 * BIG, BIG - 4), (BIG, 3 * BIG)]:
            both = two_worth(GREAT, one, other)
            self.assertLessEqual(both, met_worth(GREAT, one + other))
            self.assertGreaterEqual(both, max(met_worth(GREAT, one), met_worth(GREAT, other)))

    def test_the_told_stow_fits_and_has_the_told_worth(self):
        for store in some_singles():
            for one, other in [(0, 0), (0, 4), (3, 2), (2, 6), (9, 9)]:
                stow = two_stow(store, one, other)
                self.assertIs(is_stow(stow, store), True)
                first, second = stow_weights(store, stow)
                self.assertTrue(first <= one and second <= other)
                self.same(stow_worth(store, stow), two_worth(store, one, other))

    def test_with_more_room_or_one_kind_more_the_best_is_no_less(self):
        for store in [FOUR, LIKE, GREAT, EIGHT[:7]]:
            for one, other in itertools.product([0, 2, 5, BIG], repeat=2):
                most = two_worth(store, one, other)
                self.assertGreaterEqual(two_worth(store, one + 1, other), most)
                self.assertGreaterEqual(two_worth(store, one, other + 1), most)
                for kind in [(1, 2, 1), (1, 0, 1), (5, 9, 0)]:
                    self.assertGreaterEqual(two_worth(store + (kind,), one, other), most)


if __name__ == "__main__":
    unittest.main()
