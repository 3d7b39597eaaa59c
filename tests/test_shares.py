import itertools
import math
import unittest
from fractions import Fraction

from sackloads.errors import NoNumber, NoStore
from sackloads.shares import best_shares, bound, cut_load, share_worth, some_price, whole_bound
from sackloads.stores import fits, is_load, worth
from sackloads.tables import best_worth, best_worths
from tests.plain import all_that_fit, bound_of, comes_to, pair, shares_of, shares_worth_of, some_stores
from tests.things import BIG, STORE, TWELVE, no_counts, no_prices, no_stores
from tests.told import Told

ROOMS = range(12)
ROOM_ASKED = [best_shares, share_worth, some_price, whole_bound, cut_load]
GREAT = ((BIG, BIG - 1, 3), (BIG - 2, BIG, BIG), (7, 0, None), (BIG - 1, BIG - 2, None))
MORE_STORES = [
    STORE, TWELVE, GREAT, ((3, 2, 1), (6, 4, 2), (9, 6, None)), ((7, 3, 2), (5, 2, 3), (11, 5, 4), (2, 1, 1)),
]
PRICES = [(0, 1), (1, 1), (1, 2), (3, 2), (5, 2), (2, 3), (5, 3), (7, 1), (1, 100), (BIG, 1), (1, BIG), (BIG - 1, BIG)]


def each_store():
    return itertools.chain(some_stores(), MORE_STORES)


def is_fraction(thing):
    if [value.__class__ for value in (thing, *thing)] != [tuple, int, int]:
        return False
    return thing[0] >= 0 and thing[1] >= 1 and math.gcd(*thing) == 1


def number(fraction):
    return Fraction(fraction[0], fraction[1])


class Shares(Told):
    def test_against_fractions(self):
        for store in each_store():
            for room in ROOMS:
                with self.subTest(store=store, room=room):
                    self.same(best_shares(store, room), tuple(pair(share) for share in shares_of(store, room)))
                    self.same(share_worth(store, room), pair(shares_worth_of(store, room)))

    def test_as_much_as_is_there_and_as_there_is_room_for(self):
        store = ((4, 8, 2), (6, 9, 1), (10, 10, 3))
        self.same(best_shares(store, 0), ((0, 1), (0, 1), (0, 1)))
        self.same(best_shares(store, 1), ((1, 4), (0, 1), (0, 1)))
        self.same(best_shares(store, 2), ((1, 2), (0, 1), (0, 1)))
        self.same(best_shares(store, 6), ((3, 2), (0, 1), (0, 1)))
        self.same(best_shares(store, 8), ((2, 1), (0, 1), (0, 1)))
        self.same(best_shares(store, 12), ((2, 1), (2, 3), (0, 1)))
        self.same(best_shares(store, 14), ((2, 1), (1, 1), (0, 1)))
        self.same(best_shares(store, 18), ((2, 1), (1, 1), (2, 5)))
        self.same(best_shares(store, 44), ((2, 1), (1, 1), (3, 1)))
        self.same(best_shares(store, BIG), ((2, 1), (1, 1), (3, 1)))
        self.same([share_worth(store, room) for room in (0, 1, 2, 6, 8, 12, 14, 18, 44, BIG)], [
            (0, 1), (2, 1), (4, 1), (12, 1), (16, 1), (22, 1), (25, 1), (29, 1), (55, 1), (55, 1),
        ])

    def test_the_order_is_that_of_worth_by_weight(self):
        # 5 for 3 is more than 8 for 5, which is more than 3 for 2, though less in worth or more in weight.
        self.same(best_shares(((2, 3, 1), (5, 8, 1), (3, 5, 1)), 9), ((1, 2), (1, 1), (1, 1)))
        self.same(best_shares(((5, 8, 1), (2, 3, 1), (3, 5, 1)), 4), ((1, 5), (0, 1), (1, 1)))

    def test_of_like_ones_the_lesser_place(self):
        self.same(best_shares(((2, 3, 1), (2, 3, 1)), 3), ((1, 1), (1, 2)))
        self.same(best_shares(((4, 6, 1), (2, 3, 1)), 3), ((3, 4), (0, 1)))
        self.same(best_shares(((2, 3, 1), (4, 6, 1)), 3), ((1, 1), (1, 4)))
        self.same(best_shares(((2, 3, None), (4, 6, 1), (1, 2, 0)), 3), ((3, 2), (0, 1), (0, 1)))
        self.same(best_shares(((1, 1, 1), (2, 3, 1), (6, 9, 1), (4, 6, 1)), 9), ((0, 1), (1, 1), (1, 1), (1, 4)))
        self.same(share_worth(((1, 1, 1), (2, 3, 1), (6, 9, 1), (4, 6, 1)), 9), (27, 2))

    def test_a_kind_without_end(self):
        self.same(best_shares(((3, 5, None), (1, 1, 9)), 10), ((10, 3), (0, 1)))
        self.same(share_worth(((3, 5, None), (1, 1, 9)), 10), (50, 3))
        self.same(best_shares(((1, 1, None), (3, 5, 2)), 10), ((4, 1), (2, 1)))
        self.same(best_shares(((6, 4, None),), 4), ((2, 3),))
        self.same(share_worth(((6, 4, None),), 4), (8, 3))

    def test_a_kind_of_worth_0_and_one_that_is_not_there(self):
        self.same(best_shares(((1, 0, None), (1, 0, 5), (9, 1, 1)), 10), ((0, 1), (0, 1), (1, 1)))
        self.same(best_shares(((1, 0, None),), 10), ((0, 1),))
        self.same(share_worth(((1, 0, None),), 10), (0, 1))
        self.same(best_shares(((1, 100, 0), (9, 1, 1)), 3), ((0, 1), (1, 3)))
        self.same(best_shares((), 0), ())
        self.same(best_shares((), BIG), ())
        self.same(share_worth((), BIG), (0, 1))

    def test_fractions_in_lowest_terms(self):
        for store in each_store():
            for room in [0, 1, 6, 12, 36, BIG]:
                told = list(best_shares(store, room)) + [share_worth(store, room), some_price(store, room)]
                for fraction in told + [bound(store, room, some_price(store, room))]:
                    self.assertTrue(is_fraction(fraction), fraction)

    def test_thirty_figures(self):
        for room in [0, 1, BIG - 3, BIG - 2, BIG - 1, BIG, 2 * BIG, BIG * (BIG - 2), BIG * BIG, 10 ** 70]:
            self.same(best_shares(GREAT, room), tuple(pair(share) for share in shares_of(GREAT, room)))
            self.same(share_worth(GREAT, room), pair(shares_worth_of(GREAT, room)))
        # Worths by weight that differ in the last figures alone.
        store = ((BIG, BIG - 1, 1), (BIG - 1, BIG - 2, 1), (BIG + 1, BIG, 1))
        self.same(best_shares(store, BIG), ((0, 1), (0, 1), (BIG, BIG + 1)))
        self.same(best_shares(((BIG, BIG, 1),) * 12, BIG + 1), ((1, 1), (1, BIG)) + ((0, 1),) * 10)

    def test_no_shares_that_fit_are_worth_more(self):
        sixths = [Fraction(part, 6) for part in range(19)]
        stores = [((2, 3, 2), (3, 4, 1)), ((3, 1, None), (2, 1, 1)), ((1, 0, 3), (5, 9, 2)), ((2, 2, 1), (3, 3, 1))]
        for store in stores:
            for room in range(6):
                best = number(share_worth(store, room))
                for shares in itertools.product(sixths, repeat=2):
                    there = all(kind[2] is None or share <= kind[2] for kind, share in zip(store, shares))
                    if there and comes_to(store, shares, 0) <= room:
                        self.assertLessEqual(comes_to(store, shares, 1), best)

    def test_they_are_shares_that_fit_and_have_the_told_worth(self):
        for store in each_store():
            for room in ROOMS:
                shares = [number(share) for share in best_shares(store, room)]
                for kind, share in zip(store, shares):
                    self.assertTrue(kind[2] is None or share <= kind[2])
                self.assertLessEqual(comes_to(store, shares, 0), room)
                self.assertEqual(comes_to(store, shares, 1), number(share_worth(store, room)))


class Bound(Told):
    def test_against_fractions(self):
        for store in each_store():
            for room in [0, 1, 5, 12, BIG]:
                for price in PRICES:
                    with self.subTest(store=store, room=room, price=price):
                        wanted = bound_of(store, room, number(price))
                        self.same(bound(store, room, price), None if wanted is None else pair(wanted))

    def test_some_bounds(self):
        store = ((4, 8, 2), (6, 9, 1), (10, 10, 3))
        self.same(bound(store, 12, (0, 1)), (55, 1))
        self.same(bound(store, 12, (1, 1)), (23, 1))
        self.same(bound(store, 12, (3, 2)), (22, 1))
        self.same(bound(store, 12, (2, 1)), (24, 1))
        self.same(bound(store, 12, (5, 3)), (68, 3))
        self.same(bound(store, 0, (7, 1)), (0, 1))
        self.same(bound((), 0, (0, 1)), (0, 1))
        self.same(bound((), 6, (3, 4)), (9, 2))
        self.same(bound((), 6, (0, 1)), (0, 1))

    def test_none_where_there_is_no_bound(self):
        # Greater than its weight times the price: just so much is not.
        store = ((3, 5, None), (1, 1, 2))
        self.same(bound(store, 6, (0, 1)), None)
        self.same(bound(store, 6, (1, 1)), None)
        self.same(bound(store, 6, (5 * 10 ** 28 - 1, 3 * 10 ** 28)), None)
        self.same(bound(store, 6, (5, 3)), (10, 1))
        self.same(bound(store, 6, (2, 1)), (12, 1))
        self.same(bound(((1, 1, 2), (3, 5, None)), 6, (0, 1)), None)
        self.same(bound(((1, 0, None), (1, 1, 2)), 6, (0, 1)), (2, 1))
        self.same(bound(((1, 9, 0), (1, 1, 2)), 6, (2, 1)), (12, 1))

    def test_no_shares_that_fit_are_worth_more(self):
        for store in each_store():
            for room in ROOMS:
                for price in PRICES:
                    told = bound(store, room, price)
                    if told is not None:
                        self.assertLessEqual(number(share_worth(store, room)), number(told))


class SomePrice(Told):
    def test_its_bound_is_the_worth_of_the_best_shares(self):
        for store in each_store():
            for room in list(range(24)) + [200, BIG - 1, BIG, 3 * BIG, BIG * BIG]:
                with self.subTest(store=store, room=room):
                    price = some_price(store, room)
                    self.assertTrue(is_fraction(price))
                    self.same(bound(store, room, price), share_worth(store, room))
                    self.assertEqual(bound_of(store, room, number(price)), shares_worth_of(store, room))

    def test_where_there_is_but_one_such_price(self):
        self.same(some_price(((4, 8, 2), (6, 9, 1), (10, 10, 3)), 12), (3, 2))
        self.same(some_price(((4, 8, 2), (6, 9, 1), (10, 10, 3)), 45), (0, 1))
        self.same(some_price(((6, 4, None),), 5), (2, 3))
        self.same(some_price(((6, 0, None),), 5), (0, 1))
        self.same(some_price(((6, 4, 0),), 5), (0, 1))
        self.same(some_price((), 5), (0, 1))


class WholeBoundAndCutLoad(Told):
    def test_against_fractions(self):
        for store in each_store():
            for room in ROOMS:
                with self.subTest(store=store, room=room):
                    self.same(whole_bound(store, room), math.floor(shares_worth_of(store, room)))
                    self.same(cut_load(store, room), tuple(math.floor(share) for share in shares_of(store, room)))

    def test_some(self):
        store = ((4, 7, 2), (6, 9, 1), (10, 10, 3))
        self.same([whole_bound(store, room) for room in (0, 1, 3, 4, 8, 9, 14, 43, 44, BIG)], [
            0, 1, 5, 7, 14, 15, 23, 52, 53, 53,
        ])
        self.same([cut_load(store, room) for room in (0, 3, 4, 7, 8, 13, 14, 43, 44)], [
            (0, 0, 0), (0, 0, 0), (1, 0, 0), (1, 0, 0), (2, 0, 0), (2, 0, 0), (2, 1, 0), (2, 1, 2), (2, 1, 3),
        ])
        self.same(whole_bound((), 5), 0)
        self.same(cut_load((), 5), ())
        self.same(whole_bound(((1, 0, None),), 5), 0)
        self.same(cut_load(((1, 0, None),), 5), (0,))
        self.same(cut_load(((2, 3, None),), 7), (3,))

    def test_thirty_figures(self):
        self.same(whole_bound(((BIG, BIG - 1, 1),), BIG - 1), BIG - 2)
        self.same(cut_load(((BIG, BIG - 1, 1),), BIG - 1), (0,))
        self.same(cut_load(((BIG, BIG - 1, BIG),), BIG * BIG), (BIG,))
        self.same(cut_load(((1, BIG, None),), 10 ** 40), (10 ** 40,))

    def test_no_load_that_fits_is_worth_more(self):
        for store in some_stores():
            for room in range(7):
                most = whole_bound(store, room)
                for load in all_that_fit(store, room):
                    self.assertLessEqual(comes_to(store, load, 1), most)

    def test_the_cut_load_fits_and_lacks_less_than_one_kind(self):
        for store in each_store():
            for room in list(ROOMS) + [BIG]:
                load = cut_load(store, room)
                self.assertIs(is_load(load, store), True)
                self.assertIs(fits(store, load, room), True)
                lack = number(share_worth(store, room)) - worth(store, load)
                self.assertGreaterEqual(lack, 0)
                if any(kind[1] > 0 for kind in store):
                    self.assertLess(lack, max(kind[1] for kind in store))
                else:
                    self.assertEqual(lack, 0)


class Refusals(Told):
    def test_no_store_ahead_of_all(self):
        for store in no_stores():
            for room in [5, -1, None]:
                for asked in ROOM_ASKED:
                    self.refused(NoStore, asked, store, room)
                for price in [(1, 2), (2, 4), None]:
                    self.refused(NoStore, bound, store, room, price)

    def test_no_room(self):
        for room in no_counts():
            for store in [STORE, (), TWELVE]:
                for asked in ROOM_ASKED:
                    self.refused(NoNumber, asked, store, room)
                for price in [(1, 2), (2, 4), None]:
                    self.refused(NoNumber, bound, store, room, price)

    def test_no_price(self):
        for price in no_prices():
            for store in [STORE, (), TWELVE, ((1, 1, None),)]:
                for room in [5, 0, BIG]:
                    self.refused(NoNumber, bound, store, room, price)

    def test_no_room_is_too_great(self):
        for room in [200, 201, BIG, 10 ** 40]:
            self.same(best_shares(((3, 5, 2), (1, 0, None)), room), ((2, 1), (0, 1)))
            self.same(share_worth(((3, 5, 2), (1, 0, None)), room), (10, 1))
            self.same(whole_bound(((3, 5, 2), (1, 0, None)), room), 10)
            self.same(cut_load(((3, 5, 2), (1, 0, None)), room), (2, 0))
            self.same(bound(((3, 5, 2), (1, 0, None)), room, (1, 1)), (room + 4, 1))

    def test_what_was_told_is_a_price(self):
        # Whatever its size: these have some hundred figures.
        store = tuple((BIG - place, BIG - place * place, 1) for place in range(12))
        price = share_worth(store, BIG * 5)
        for turn in range(4):
            price = share_worth(((price[1], price[0], 1),), BIG ** (turn + 1))
            self.same(bound((), 1, price), price)


class NothingIsChanged(Told):
    def test_what_was_handed_in_is_the_same_and_so_is_the_answer(self):
        for asked in ROOM_ASKED:
            for store in [(), STORE, TWELVE, GREAT]:
                for room in [0, 7, 201, BIG]:
                    self.nothing_changes(asked, [store, room])
            for thing in no_stores() + no_counts():
                self.nothing_changes(asked, [thing, 5])
                self.nothing_changes(asked, [STORE, thing])
        for thing in no_stores() + no_counts() + no_prices() + PRICES:
            self.nothing_changes(bound, [thing, 5, (1, 2)])
            self.nothing_changes(bound, [STORE, thing, (1, 2)])
            self.nothing_changes(bound, [STORE, 5, thing])


class WhatFollows(Told):
    def test_whole_shares_are_a_load_of_the_best_worth(self):
        for store in some_stores():
            for room, best in enumerate(best_worths(store, 11)):
                if all(share[1] == 1 for share in best_shares(store, room)):
                    self.assertEqual(share_worth(store, room), (best, 1))
                    self.assertEqual(worth(store, cut_load(store, room)), best)

    def test_no_load_is_worth_more_than_the_shares(self):
        for store in some_stores():
            for room, best in enumerate(best_worths(store, 11)):
                self.assertLessEqual(best, number(share_worth(store, room)))
                self.assertLessEqual(best, whole_bound(store, room))
                self.assertLessEqual(worth(store, cut_load(store, room)), best)
        for store in [STORE, TWELVE]:
            self.assertLessEqual(best_worth(store, 60), whole_bound(store, 60))

    def test_one_more_room_brings_no_more_than_the_one_ahead(self):
        for store in each_store():
            told = [number(share_worth(store, room)) for room in range(20)]
            grown = [more - less for less, more in zip(told, told[1:])]
            self.assertEqual(grown, sorted(grown, reverse=True))
            self.assertGreaterEqual(grown[-1], 0)

    def test_one_kind_more_and_the_best_is_no_less(self):
        for store in some_stores():
            for kind in [(1, 0, None), (1, 2, 1), (5, 9, None), (3, 1, 0)]:
                for room in [0, 1, 5, 11]:
                    less = number(share_worth(store, room))
                    self.assertGreaterEqual(number(share_worth(store + (kind,), room)), less)
                    self.assertGreaterEqual(number(share_worth((kind,) + store, room)), less)


if __name__ == "__main__":
    unittest.main()
