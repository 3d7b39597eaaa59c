"""What the document promises over the whole program: its interface, and that all modules agree."""

import copy
import importlib
import inspect
import unittest

from sackloads.changes import beaten, grown, like_joined, never_in, put_to, unbeaten, without
from sackloads.desk import Desk
from sackloads.endless import before, endless_load, endless_worth, start
from sackloads.full import all_filled, fill, fills_many, most_filling
from sackloads.halves import half_loads, is_stair, met_load, met_worth, stair_for
from sackloads.papers import cut_for, is_cut, table_bound, table_paper
from sackloads.rests import rest_bound, rest_paper
from sackloads.sacks import two_bound, two_stow, two_worth
from sackloads.shares import bound, cut_load, share_worth, some_price, whole_bound
from sackloads.stores import bounded, fits, is_load, leaves, weight, worth
from sackloads.tables import best_load, best_worth, best_worths, least_weight, loads_many
from sackloads.texts import read, show
from tests.plain import all_best, all_that_fit, best_of, endless_stores, single_stores, some_stores
from tests.things import BIG, STORE, TWELVE
from tests.told import Told

INTERFACE = {
    "stores": "is_store(thing) is_load(thing,store) weight(store,load) worth(store,load) fits(store,load,room) "
              "bounded(store,room) leaves(store,load) whole_load(store)",
    "texts": "show(store) read(text)",
    "tables": "best_worths(store,room) best_worth(store,room) best_load(store,room) loads_many(store,room) "
              "best_many(store,room) least_weight(store,worth) least_load(store,worth)",
    "halves": "half_loads(store) met_worth(store,room) met_load(store,room) is_stair(thing,store,room,worth) "
              "stair_for(store,room,worth)",
    "shares": "best_shares(store,room) share_worth(store,room) bound(store,room,price) some_price(store,room) "
              "whole_bound(store,room) cut_load(store,room)",
    "papers": "table_bound(thing,store,room) table_paper(store,room) is_cut(thing,store,room,u) cut_for(store,room,u)",
    "endless": "lead(store) start(store) before(store) endless_worth(store,room) endless_load(store,room)",
    "rests": "rest_bound(thing,store,room) rest_paper(store)",
    "full": "filled(store,room) all_filled(store,room) fills_many(store,room) most_filling(store,room) "
            "least_filling(store,room) fill(store,room) never_filled(store) never_many(store)",
    "sacks": "is_stow(thing,store) stow_weights(store,stow) stow_worth(store,stow) two_worth(store,one,other) "
             "two_stow(store,one,other) stows_many(store,one,other) two_bound(store,one,other,price,more)",
    "changes": "put_to(store,kind) without(store,place) grown(store,weight,worth) beaten(store) unbeaten(store) "
               "like_joined(store) never_in(store,room,u)",
}
ROOMS = range(7)


class Interface(Told):
    def test_names_and_arguments(self):
        for module, calls in INTERFACE.items():
            found = importlib.import_module("sackloads." + module)
            for call in calls.split(" "):
                name, arguments = call[:-1].split("(")
                with self.subTest(module=module, name=name):
                    self.assertEqual(list(inspect.signature(getattr(found, name)).parameters), arguments.split(","))

    def test_the_desk(self):
        self.assertEqual(list(inspect.signature(Desk).parameters), [])
        self.assertEqual(list(inspect.signature(Desk().say).parameters), ["line"])


class ThePromise(Told):
    def test_the_told_load_has_the_greatest_worth_and_is_the_first_such(self):
        for store in some_stores():
            for room in ROOMS:
                load = best_load(store, room)
                self.same(load, min(all_best(store, room)))
                self.same(worth(store, load), best_of(store, room))

    def test_no_load_more_than_the_shares_no_shares_more_than_a_price_shows(self):
        for store in some_stores():
            for room in ROOMS:
                best = best_worth(store, room)
                top, bottom = share_worth(store, room)
                self.assertLessEqual(best * bottom, top)
                for price in [some_price(store, room), (0, 1), (1, 1), (5, 2), (7, 3)]:
                    told = bound(store, room, price)
                    if told is not None:
                        self.assertLessEqual(top * told[1], told[0] * bottom)

    def test_each_way_to_the_best_worth_tells_the_same(self):
        for store in single_stores():
            for room in ROOMS:
                best = best_worth(store, room)
                self.same(met_worth(store, room), best)
                self.same(met_load(store, room), best_load(store, room))
                self.same(table_bound(table_paper(store, room), store, room), best)
                self.same(two_worth(store, room, 0), best)
                self.same(two_stow(store, room, 0), best_load(store, room))
                self.same(max(most_filling(store, size) for size in all_filled(store, room)), best)

    def test_where_no_load_is_worth_so_much_each_paper_shows_it(self):
        for store in single_stores():
            for room in ROOMS:
                best = best_worth(store, room)
                for u in [best, best + 1]:
                    stair, cut = stair_for(store, room, u), cut_for(store, room, u)
                    self.assertEqual(stair is None, u == best)
                    self.assertEqual(cut is None, u == best)
                    self.assertIs(is_stair(stair, store, room, u), u > best)
                    self.assertIs(is_cut(cut, store, room, u), u > best)

    def test_kinds_without_end_by_tables_and_by_rounds(self):
        for store in endless_stores():
            told = best_worths(store, 25)
            self.same([endless_worth(store, room) for room in range(26)], told)
            self.same(before(store), told[:start(store)])
            paper = rest_paper(store)
            for room, best in enumerate(told):
                self.same(worth(store, endless_load(store, room)), best)
                self.assertGreaterEqual(rest_bound(paper, store, room), best)
                if room >= start(store):
                    self.same(rest_bound(paper, store, room), best)

    def test_changed_stores_have_the_same_best_worths_by_each_way(self):
        for store in some_stores():
            for changed in [unbeaten(store), like_joined(store), bounded(store, 9)]:
                self.same(best_worths(changed, 9), best_worths(store, 9))
            self.same(loads_many(bounded(store, 6), 6), len(all_that_fit(store, 6)))

    def test_a_load_and_one_of_what_it_leaves(self):
        for store in some_stores():
            for load in [best_load(store, 5), cut_load(store, 4)]:
                left = leaves(store, load)
                other = best_load(left, 6)
                both = tuple(one + two for one, two in zip(load, other))
                self.assertIs(is_load(both, store), True)
                self.same(weight(store, both), weight(store, load) + weight(left, other))
                self.same(worth(store, both), worth(store, load) + worth(left, other))

    def test_the_least_weight_and_the_rooms_that_are_filled(self):
        for store in some_stores():
            for goal in [1, 3, 6]:
                least = least_weight(store, goal)
                if least is not None:
                    self.assertGreaterEqual(most_filling(store, least), goal)
                    self.assertIs(fits(store, fill(store, least), least), True)

    def test_what_is_never_in_is_cut_off(self):
        for store in some_stores():
            for room in [3, 6]:
                u = best_worth(store, room)
                for place in never_in(store, room, u):
                    if store[place][2] != 0 and store[place][0] <= room:
                        less = leaves(store, tuple(int(at == place) for at in range(len(store))))
                        lacking = u - store[place][1]
                        self.assertIsNotNone(cut_for(less, room - store[place][0], lacking))


class WhatWasToldIsHandedIn(Told):
    def test_numbers_whatever_their_size(self):
        store = ((3, 5, 2), (1, 0, None), (4, 7, 1))
        for turn in range(6):
            store = grown(store, BIG, BIG)
        self.assertGreater(store[0][0], 10 ** 179)
        self.same(read(show(store)), store)
        self.same(without(put_to(store, store[0]), 3), store)
        self.same(never_in(store, store[0][0], store[0][1]), [1, 2])
        self.same(share_worth(store, 10 * store[1][0]), (17 * BIG ** 6, 1))
        single = (store[0][:2] + (1,), store[2])
        self.same(met_worth(single, 7 * BIG ** 6), 12 * BIG ** 6)
        self.same(two_stow(single, 3 * BIG ** 6, 4 * BIG ** 6), (1, 2))
        price = some_price(single, 4 * BIG ** 6)
        self.same(bound(single, 4 * BIG ** 6, price), share_worth(single, 4 * BIG ** 6))
        self.assertGreaterEqual(two_bound(single, BIG ** 6, BIG, price, price)[0], 0)
        self.same(best_worth(store, 200), 0)
        self.same(fills_many(store, 200), 0)

    def test_papers(self):
        great = grown(((3, 5, 2), (2, 3, None)), 1, BIG ** 3)
        paper = table_paper(great, 7)
        self.same(table_bound(paper, great, 7), 11 * BIG ** 3)
        self.assertIs(is_cut(cut_for(great, 7, 11 * BIG ** 3 + 1), great, 7, 11 * BIG ** 3 + 1), True)
        endless = grown(((5, 8, None), (3, 4, None)), 1, BIG ** 3)
        self.same(rest_bound(rest_paper(endless), endless, 5 * BIG), 8 * BIG ** 4)


class ToldListsAreTheAskersOwn(Told):
    def test_what_is_done_to_them_changes_nothing_told_later(self):
        single = ((3, 5, 1), (1, 1, 1), (2, 3, 1))
        endless = ((3, 5, None), (2, 3, None), (3, 5, None))
        calls = [
            (best_worths, [STORE, 7]), (half_loads, [single]), (table_paper, [STORE, 4]), (before, [endless]),
            (all_filled, [STORE, 9]), (beaten, [endless]), (never_in, [TWELVE, 9, 5]),
        ]
        for asked, given in calls:
            with self.subTest(asked=asked.__name__):
                told = asked(*given)
                kept = copy.deepcopy(told)
                for part in told if isinstance(told, tuple) else [told]:
                    part.reverse()
                    part.append(None)
                    part[0] = "changed"
                self.same(asked(*given), kept)


if __name__ == "__main__":
    unittest.main()
