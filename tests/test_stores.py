import itertools
import unittest

from sackloads.errors import NoLoad, NoNumber, NoStore
from sackloads.stores import bounded, fits, is_load, is_store, leaves, weight, whole_load, worth
from tests.plain import all_that_fit, small_stores
from tests.things import BIG, STORE, THIRTEEN, TWELVE, no_counts, no_loads, no_stores
from tests.told import Told


class IsStore(Told):
    def test_stores(self):
        stores = [
            (), STORE, TWELVE, ((1, 0, 0),), ((1, 0, None),), ((3, 5, 2), (3, 5, 2)),
            ((BIG, BIG, BIG),), ((BIG, BIG, None),) * 12, ((10 ** 40, 10 ** 40, 10 ** 40),),
        ]
        for store in stores:
            with self.subTest(store=store):
                self.assertIs(is_store(store), True)

    def test_no_stores(self):
        for thing in no_stores():
            with self.subTest(thing=thing):
                self.assertIs(is_store(thing), False)


class IsLoad(Told):
    def test_loads(self):
        for load in [(0, 0, 0), (1, 0, 0), (2, 0, 0), (2, BIG, 0), (0, 10 ** 40, 0)]:
            with self.subTest(load=load):
                self.assertIs(is_load(load, STORE), True)
        self.assertIs(is_load((), ()), True)
        self.assertIs(is_load(tuple(range(12)), TWELVE), True)
        self.assertIs(is_load((BIG,), ((1, 1, BIG),)), True)

    def test_just_as_often_and_once_more(self):
        for most in [0, 1, 2, 7, BIG]:
            with self.subTest(most=most):
                self.assertIs(is_load((most,), ((2, 3, most),)), True)
                self.assertIs(is_load((most + 1,), ((2, 3, most),)), False)
                self.assertIs(is_load((0, most + 1), ((2, 3, most), (2, 3, None))), True)

    def test_no_loads(self):
        for thing in no_loads():
            with self.subTest(thing=thing):
                self.assertIs(is_load(thing, STORE), False)

    def test_no_loads_of_the_store_without_kinds(self):
        for thing in [None, [], {}, "", 0, False, (0,), ((),)]:
            with self.subTest(thing=thing):
                self.assertIs(is_load(thing, ()), False)

    def test_no_store(self):
        for store in no_stores():
            for thing in [(), (0,), None, store]:
                with self.subTest(thing=thing, store=store):
                    self.assertRaises(NoStore, is_load, thing, store)


class WeightAndWorth(Told):
    def test_what_a_load_comes_to(self):
        cases = [
            ((), (), 0, 0),
            (STORE, (0, 0, 0), 0, 0),
            (STORE, (1, 0, 0), 3, 5),
            (STORE, (2, 4, 0), 10, 10),
            (((2, 3, 4), (5, 7, 6)), (3, 2), 16, 23),
            (((1, 0, None),), (BIG,), BIG, 0),
            (((BIG, BIG - 1, BIG),) * 2, (BIG, 1), BIG * BIG + BIG, (BIG - 1) * BIG + BIG - 1),
        ]
        for store, load, heavy, dear in cases:
            with self.subTest(store=store, load=load):
                self.same(weight(store, load), heavy)
                self.same(worth(store, load), dear)

    def test_no_load(self):
        for thing in no_loads():
            with self.subTest(thing=thing):
                self.assertRaises(NoLoad, weight, STORE, thing)
                self.assertRaises(NoLoad, worth, STORE, thing)

    def test_no_store_ahead_of_no_load(self):
        for store in no_stores():
            for thing in [(0,), (1,), None, "a"]:
                with self.subTest(thing=thing, store=store):
                    self.assertRaises(NoStore, weight, store, thing)
                    self.assertRaises(NoStore, worth, store, thing)


class Fits(Told):
    def test_a_room_just_of_the_weight_and_one_less(self):
        cases = [
            (STORE, (1, 0, 0), 3),
            (STORE, (2, 4, 0), 10),
            (((BIG, 0, BIG),), (BIG,), BIG * BIG),
        ]
        for store, load, heavy in cases:
            with self.subTest(store=store, load=load):
                self.assertIs(fits(store, load, heavy), True)
                self.assertIs(fits(store, load, heavy + 1), True)
                self.assertIs(fits(store, load, heavy - 1), False)
                self.assertIs(fits(store, load, 0), False)

    def test_nothing_fits_no_room(self):
        self.assertIs(fits((), (), 0), True)
        self.assertIs(fits(STORE, (0, 0, 0), 0), True)
        self.assertIs(fits(STORE, (0, 1, 0), 0), False)

    def test_no_number(self):
        for room in no_counts():
            with self.subTest(room=room):
                self.assertRaises(NoNumber, fits, STORE, (0, 0, 0), room)
                self.assertRaises(NoNumber, fits, (), (), room)

    def test_no_load_ahead_of_no_number(self):
        for thing in no_loads():
            for room in [100, 0, -1, True, None, "1"]:
                with self.subTest(thing=thing, room=room):
                    self.assertRaises(NoLoad, fits, STORE, thing, room)

    def test_no_store_ahead_of_all(self):
        for store in no_stores():
            for thing, room in [((0,), 5), (None, 5), ((0,), -1), (None, None)]:
                with self.subTest(store=store, thing=thing, room=room):
                    self.assertRaises(NoStore, fits, store, thing, room)


class Bounded(Told):
    def test_no_more_than_fits_alone_and_no_more_than_was(self):
        store = ((3, 5, 2), (3, 5, 4), (3, 5, None), (1, 0, 0), (10, 1, 1), (11, 1, 1), (11, 1, None))
        self.same(bounded(store, 10), (
            (3, 5, 2), (3, 5, 3), (3, 5, 3), (1, 0, 0), (10, 1, 1), (11, 1, 0), (11, 1, 0),
        ))

    def test_just_a_multiple_and_one_less(self):
        self.same(bounded(((3, 5, None), (3, 5, 9)), 9), ((3, 5, 3), (3, 5, 3)))
        self.same(bounded(((3, 5, None), (3, 5, 9)), 8), ((3, 5, 2), (3, 5, 2)))

    def test_edges(self):
        self.same(bounded((), 0), ())
        self.same(bounded((), BIG), ())
        self.same(bounded(STORE, 0), ((3, 5, 0), (1, 0, 0), (4, 7, 0)))
        self.same(bounded(STORE, BIG), ((3, 5, 2), (1, 0, BIG), (4, 7, 0)))
        self.same(bounded(((BIG, BIG, None),), BIG * BIG), ((BIG, BIG, BIG),))

    def test_no_number(self):
        for room in no_counts():
            with self.subTest(room=room):
                self.assertRaises(NoNumber, bounded, STORE, room)
                self.assertRaises(NoNumber, bounded, (), room)

    def test_no_store_ahead_of_no_number(self):
        for store in no_stores():
            for room in [5, -1, True, None]:
                with self.subTest(store=store, room=room):
                    self.assertRaises(NoStore, bounded, store, room)


class Leaves(Told):
    def test_so_much_less_often(self):
        self.same(leaves((), ()), ())
        self.same(leaves(STORE, (0, 0, 0)), STORE)
        self.same(leaves(STORE, (2, 9, 0)), ((3, 5, 0), (1, 0, None), (4, 7, 0)))
        self.same(leaves(((2, 3, 4), (5, 7, 6)), (3, 2)), ((2, 3, 1), (5, 7, 4)))
        self.same(leaves(((BIG, BIG, BIG), (BIG, 0, None)), (BIG - 1, BIG)), ((BIG, BIG, 1), (BIG, 0, None)))

    def test_no_load(self):
        for thing in no_loads():
            with self.subTest(thing=thing):
                self.assertRaises(NoLoad, leaves, STORE, thing)

    def test_no_store_ahead_of_no_load(self):
        for store in no_stores():
            for thing in [(0,), None]:
                with self.subTest(store=store, thing=thing):
                    self.assertRaises(NoStore, leaves, store, thing)


class WholeLoad(Told):
    def test_each_as_often_as_it_is_there(self):
        self.same(whole_load(()), ())
        self.same(whole_load(((3, 5, 2),)), (2,))
        self.same(whole_load(((3, 5, 2), (1, 0, 0), (BIG, 7, BIG))), (2, 0, BIG))
        self.same(whole_load(TWELVE), tuple(range(12)))

    def test_none_where_some_kind_is_without_end(self):
        self.assertIs(whole_load(STORE), None)
        self.assertIs(whole_load(((1, 0, None),)), None)
        self.assertIs(whole_load(((1, 0, None), (1, 0, 1))), None)
        self.assertIs(whole_load(((1, 0, 1), (1, 0, None))), None)

    def test_no_store(self):
        for store in no_stores():
            with self.subTest(store=store):
                self.assertRaises(NoStore, whole_load, store)


class NothingIsChanged(Told):
    def calls(self):
        """Each function with each thing in each place, the refused ones too."""
        for thing in no_stores() + no_loads() + no_counts() + [THIRTEEN]:
            yield is_store, [thing]
            yield whole_load, [thing]
            yield is_load, [thing, STORE]
            yield is_load, [(0, 0, 0), thing]
            yield bounded, [thing, 5]
            yield bounded, [STORE, thing]
            yield fits, [STORE, (0, 0, 0), thing]
            for asked in [weight, worth, leaves]:
                yield asked, [thing, (0,)]
                yield asked, [STORE, thing]

    def test_what_was_handed_in_is_the_same_and_so_is_the_answer(self):
        for asked, given in self.calls():
            self.nothing_changes(asked, given)


class WhatFollows(Told):
    def test_a_load_and_one_of_what_it_leaves_come_together(self):
        for store in small_stores():
            for load in all_that_fit(store, 4):
                left = leaves(store, load)
                for more in all_that_fit(left, 3):
                    both = tuple(one + other for one, other in zip(load, more))
                    self.assertIs(is_load(more, left), True)
                    self.assertIs(is_load(both, store), True)
                    self.assertEqual(weight(store, both), weight(store, load) + weight(left, more))
                    self.assertEqual(worth(store, both), worth(store, load) + worth(left, more))

    def test_nothing_is_left_of_the_whole_load(self):
        store = ((3, 5, 2), (1, 0, 4), (4, 7, 0))
        self.same(whole_load(leaves(store, whole_load(store))), (0, 0, 0))

    def test_loads_that_fit_are_those_of_the_bounded_store_that_fit(self):
        for store in small_stores():
            for room in range(6):
                close = bounded(store, room)
                self.assertIs(is_store(close), True)
                tuples = itertools.product(*[range(room + 2) for _ in store])
                found = [one for one in tuples if is_load(one, close) and fits(close, one, room)]
                self.assertEqual(found, all_that_fit(store, room))
                tuples = itertools.product(*[range(room + 2) for _ in store])
                found = [one for one in tuples if is_load(one, store) and fits(store, one, room)]
                self.assertEqual(found, all_that_fit(store, room))

    def test_each_kind_of_the_bounded_store_fits_alone_and_once_more_does_not(self):
        for store in small_stores():
            for room in range(6):
                for kind, close in zip(store, bounded(store, room)):
                    self.assertEqual(close[:2], kind[:2])
                    self.assertIs(fits((kind,), (close[2],), room), True)
                    more = (close[2] + 1,)
                    self.assertFalse(is_load(more, (kind,)) and fits((kind,), more, room))


if __name__ == "__main__":
    unittest.main()
