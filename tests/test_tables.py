import itertools
import math
import unittest

from sackloads.errors import NoNumber, NoStore, TooMany
from sackloads.stores import fits, is_load, weight, worth
from sackloads.tables import best_load, best_many, best_worth, best_worths, least_load, least_weight, loads_many
from tests.plain import all_best, all_lightest, all_that_fit, best_of, some_stores
from tests.things import BIG, STORE, TWELVE, no_counts, no_stores
from tests.told import Told

ROOM_ASKED = [best_worths, best_worth, best_load, loads_many, best_many]
WORTH_ASKED = [least_weight, least_load]
ALL_ASKED = ROOM_ASKED + WORTH_ASKED
ROOMS = range(8)
WORTHS = range(12)
GREAT = ((BIG, BIG, BIG), (BIG - 1, BIG - 1, None), (1, BIG, BIG), (1, BIG - 1, None), (2, 2 * BIG, 1))


class AgainstAllLoads(Told):
    def test_best_worths(self):
        for store in some_stores():
            with self.subTest(store=store):
                plain = [best_of(store, room) for room in ROOMS]
                self.same(best_worths(store, ROOMS[-1]), plain)
                for room in ROOMS:
                    self.same(best_worths(store, room), plain[:room + 1])
                    self.same(best_worth(store, room), plain[room])

    def test_the_first_of_the_best_loads(self):
        for store in some_stores():
            for room in ROOMS:
                with self.subTest(store=store, room=room):
                    self.same(best_load(store, room), min(all_best(store, room)))

    def test_how_many(self):
        for store in some_stores():
            for room in ROOMS:
                with self.subTest(store=store, room=room):
                    self.same(loads_many(store, room), len(all_that_fit(store, room)))
                    self.same(best_many(store, room), len(all_best(store, room)))

    def test_the_lightest_for_a_worth(self):
        for store in some_stores():
            if len(store) < 4:
                for goal in WORTHS:
                    with self.subTest(store=store, goal=goal):
                        least, lightest = all_lightest(store, goal)
                        self.same(least_weight(store, goal), least)
                        self.same(least_load(store, goal), min(lightest, default=None))

    def test_the_lightest_for_a_worth_of_more_kinds(self):
        for store in [((3, 4, 2), (3, 4, 2), (1, 1, 3), (2, 2, 1)), ((2, 3, 1), (5, 4, 2), (1, 1, None), (4, 6, 1))]:
            for goal in WORTHS:
                with self.subTest(store=store, goal=goal):
                    least, lightest = all_lightest(store, goal)
                    self.same(least_weight(store, goal), least)
                    self.same(least_load(store, goal), min(lightest, default=None))


class Best(Told):
    def test_worths(self):
        self.same(best_worths((), 0), [0])
        self.same(best_worths((), 3), [0, 0, 0, 0])
        self.same(best_worths(STORE, 0), [0])
        self.same(best_worths(STORE, 7), [0, 0, 0, 5, 5, 5, 10, 10])
        self.same(best_worths(((2, 3, None), (5, 8, 1)), 10), [0, 0, 3, 3, 6, 8, 9, 11, 12, 14, 15])

    def test_rooms_less_than_every_weight(self):
        store = ((7, 1, 3), (9, 100, None))
        self.same(best_worths(store, 6), [0] * 7)
        self.same(best_load(store, 6), (0, 0))
        self.same(loads_many(store, 6), 1)
        self.same(best_many(store, 6), 1)
        self.same(best_worth(store, 7), 1)

    def test_a_kind_that_is_not_there_is_never_taken(self):
        self.same(best_worth(((1, 100, 0), (1, 1, 3)), 9), 3)
        self.same(best_load(((1, 100, 0), (1, 1, 3)), 9), (0, 3))
        self.same(loads_many(((1, 100, 0),), 9), 1)

    def test_no_kind_is_taken_more_often_than_it_is_there(self):
        self.same(best_worths(((2, 5, 2),), 8), [0, 0, 5, 5, 10, 10, 10, 10, 10])
        self.same(best_worths(((2, 5, None),), 8), [0, 0, 5, 5, 10, 10, 15, 15, 20])

    def test_the_first_of_several(self):
        self.same(best_load(((2, 2, None), (1, 1, None)), 5), (0, 5))
        self.same(best_load(((2, 2, None), (1, 1, 2)), 5), (2, 1))
        self.same(best_load(((2, 2, 1), (2, 2, 1), (2, 2, 1)), 4), (0, 1, 1))
        self.same(best_load(((3, 5, 2), (3, 5, 2)), 9), (1, 2))
        # A worth of 0 is left out, as the load with fewer is the first.
        self.same(best_load(((1, 0, None), (4, 1, 1)), 9), (0, 1))
        self.same(best_load(((1, 0, 5),), 9), (0,))
        # The first is not the lightest one.
        self.same(best_load(((1, 3, 1), (2, 3, 1)), 2), (0, 1))

    def test_how_many(self):
        self.same(loads_many((), 0), 1)
        self.same(loads_many((), 200), 1)
        self.same(best_many((), 200), 1)
        self.same(loads_many(((1, 1, None), (1, 1, None)), 3), 10)
        self.same(best_many(((1, 1, None), (1, 1, None)), 3), 4)
        self.same(best_many(((3, 5, 2), (3, 5, 2)), 9), 2)
        self.same(loads_many(((1, 0, None),), 200), 201)
        # All that fit are the best where nothing has a worth.
        self.same(best_many(((1, 0, None),), 200), 201)
        self.same(best_many(((1, 0, 7), (3, 4, None)), 200), 3)
        self.same(best_many(((1, 0, 7), (3, 4, None)), 199), 2)

    def test_the_room_two_hundred(self):
        store = ((1, 1, None),) * 12
        self.same(best_worths(store, 200), list(range(201)))
        self.same(best_load(store, 200), (0,) * 11 + (200,))
        self.same(loads_many(store, 200), math.comb(212, 12))
        self.same(best_many(store, 200), math.comb(211, 11))
        self.same(best_worth(((200, 7, 1), (199, 6, 1), (1, 1, 1)), 200), 7)
        self.same(best_load(((200, 7, 1), (199, 6, 1), (1, 1, 1)), 200), (0, 1, 1))

    def test_thirty_figures(self):
        self.same(best_worth(GREAT, 3), 3 * BIG)
        self.same(best_load(GREAT, 3), (0, 0, 1, 0, 1))
        self.same(best_many(GREAT, 3), 2)
        self.same(best_worths(((1, BIG, BIG),), 200), [BIG * room for room in range(201)])
        self.same(best_worths(((BIG, BIG, None),), 200), [0] * 201)
        self.same(loads_many(((BIG, BIG, None), (1, 0, BIG)), 200), 201)


class Least(Told):
    def test_no_worth_needs_no_weight(self):
        for store in [(), STORE, TWELVE, GREAT, ((1, 0, None),), ((5, 9, 0),)]:
            self.same(least_weight(store, 0), 0)
            self.same(least_load(store, 0), (0,) * len(store))

    def test_just_reached_and_one_more(self):
        self.same([least_weight(((3, 5, 2),), goal) for goal in (4, 5, 6, 10, 11)], [3, 3, 6, 6, None])
        self.same([least_load(((3, 5, 2),), goal) for goal in (4, 5, 6, 10, 11)], [(1,), (1,), (2,), (2,), None])
        self.same([least_weight(((3, 5, None),), goal) for goal in (10, 11, 200)], [6, 9, 120])
        self.same(least_load(((3, 5, None),), 200), (40,))
        self.same(least_load(((3, 5, None),), 199), (40,))
        self.same(least_load(((3, 5, None),), 195), (39,))

    def test_none_where_no_load_has_so_much(self):
        for store in [(), ((1, 0, None),), ((1, 100, 0),), ((1, 0, None), (1, 0, 3))]:
            for goal in (1, 2, 200):
                self.same(least_weight(store, goal), None)
                self.same(least_load(store, goal), None)
        self.same(least_weight(((1, 199, 1),), 200), None)
        self.same(least_load(((1, 199, 1),), 200), None)
        self.same(least_weight(((1, 199, 1), (7, 1, 1)), 200), 8)
        self.same(least_load(((1, 199, 1), (7, 1, 1)), 200), (1, 1))

    def test_the_first_of_several(self):
        self.same(least_load(((2, 3, 1), (2, 3, 1), (2, 3, 1)), 4), (0, 1, 1))
        self.same(least_load(((4, 6, None), (2, 3, None)), 12), (0, 4))
        # Of the lightest ones the first, though another is worth more.
        self.same(least_load(((2, 9, 1), (2, 5, 1)), 5), (0, 1))
        self.same(least_load(((2, 9, 1), (2, 5, 1)), 6), (1, 0))
        # And not the first of those that have the worth but are heavier.
        self.same(least_load(((1, 5, 1), (2, 5, 1)), 5), (1, 0))

    def test_thirty_figures(self):
        self.same(least_weight(((BIG, 1, BIG),), 200), 200 * BIG)
        self.same(least_load(((BIG, 1, BIG), (BIG - 1, 1, None)), 200), (0, 200))
        self.same(least_weight(((BIG, BIG, None), (BIG - 1, BIG, BIG)), 200), BIG - 1)
        self.same(least_load(((BIG, BIG, None), (BIG - 1, BIG, BIG)), 200), (0, 1))
        self.same(least_load(((BIG, BIG, None), (BIG - 1, 199, 1)), 200), (1, 0))


class Refusals(Told):
    def test_no_store_ahead_of_all(self):
        for store in no_stores():
            for asked in ALL_ASKED:
                for number in [5, 201, -1, None]:
                    self.refused(NoStore, asked, store, number)

    def test_no_number_ahead_of_too_many(self):
        for number in no_counts() + [-201]:
            for asked in ALL_ASKED:
                for store in [STORE, (), TWELVE]:
                    self.refused(NoNumber, asked, store, number)

    def test_two_hundred_and_one(self):
        for asked in ALL_ASKED:
            for store in [STORE, (), TWELVE, GREAT, ((BIG, BIG, 0),)]:
                asked(store, 200)
                for number in [201, 202, 1000, BIG, 10 ** 40]:
                    self.refused(TooMany, asked, store, number)


class NothingIsChanged(Told):
    def test_what_was_handed_in_is_the_same_and_so_is_the_answer(self):
        for asked in ALL_ASKED:
            for store in [(), STORE, TWELVE, GREAT]:
                for number in [0, 7, 200, 201]:
                    self.nothing_changes(asked, [store, number])
            for thing in no_stores() + no_counts():
                self.nothing_changes(asked, [thing, 5])
                self.nothing_changes(asked, [STORE, thing])

    def test_a_told_list_is_the_askers_own(self):
        for store in [(), STORE, TWELVE]:
            told = best_worths(store, 9)
            kept = list(told)
            told[0] = "changed"
            told.append(77)
            self.same(best_worths(store, 9), kept)
            told.clear()
            self.same(best_worths(store, 9), kept)
            self.same(best_worth(store, 9), kept[9])
            self.assertIsNot(best_worths(store, 9), best_worths(store, 9))


class WhatFollows(Told):
    def test_the_told_loads_are_loads_of_what_was_told_of_them(self):
        for store in some_stores():
            for room in ROOMS:
                load = best_load(store, room)
                self.assertIs(is_load(load, store), True)
                self.assertIs(fits(store, load, room), True)
                self.assertEqual(worth(store, load), best_worth(store, room))
            for goal in WORTHS:
                load = least_load(store, goal)
                self.assertEqual(load is None, least_weight(store, goal) is None)
                if load is not None:
                    self.assertIs(is_load(load, store), True)
                    self.assertEqual(weight(store, load), least_weight(store, goal))
                    self.assertGreaterEqual(worth(store, load), goal)

    def test_the_best_worths_of_rooms_that_rise_never_fall(self):
        for store in itertools.chain(some_stores(), [STORE, TWELVE, GREAT]):
            told = best_worths(store, 30)
            self.assertEqual(told, sorted(told))

    def test_one_kind_more_and_the_best_is_no_less(self):
        for store in some_stores():
            told = best_worths(store, 12)
            for kind in [(1, 0, None), (1, 2, 1), (5, 9, None), (3, 1, 0)]:
                for longer in [store + (kind,), (kind,) + store]:
                    for more, less in zip(best_worths(longer, 12), told):
                        self.assertGreaterEqual(more, less)

    def test_the_room_of_the_least_weight(self):
        for store in some_stores():
            for goal in range(1, 12):
                least = least_weight(store, goal)
                if least is None:
                    self.assertLess(best_worth(store, 200), goal)
                else:
                    told = best_worths(store, least)
                    self.assertGreaterEqual(told[least], goal)
                    self.assertLess(told[least - 1], goal)


if __name__ == "__main__":
    unittest.main()
