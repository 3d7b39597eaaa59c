import copy
import itertools
import unittest

from sackloads.changes import beaten, grown, like_joined, never_in, put_to, unbeaten, without
from sackloads.errors import NoKind, NoNumber, NoStore, TooMany
from sackloads.shares import share_worth, whole_bound
from sackloads.stores import is_store
from sackloads.tables import best_load, best_worth, best_worths
from tests.plain import all_that_fit, beaten_of, comes_to, joined_of, never_of, some_stores
from tests.things import BIG, STORE, TWELVE, no_counts, no_kinds, no_stores, no_wholes
from tests.told import Told

KINDS = [(1, 0, None), (1, 0, 0), (3, 5, 2), (BIG, BIG, BIG), (BIG, 0, None), (10 ** 40, 10 ** 40, 10 ** 40)]
GREAT = ((BIG, BIG, BIG), (BIG - 1, BIG - 1, None), (1, BIG, BIG), (1, BIG - 1, None), (2, 2 * BIG, 1))
MORE_STORES = [
    STORE, TWELVE, GREAT, ((2, 3, None),) * 12, ((3, 3, None), (2, 3, None), (5, 1, 4)),
    ((2, 3, None), (2, 3, 5), (2, 3, None)), ((2, 3, 5), (2, 3, None)), ((4, 4, None), (4, 3, None), (5, 4, None)),
    ((5, 9, 0), (5, 9, None), (6, 9, 0)), ((2, 5, 1), (3, 5, 1)), ((1, 0, None), (2, 0, None), (3, 1, None)),
]


def each_store():
    return itertools.chain(some_stores(), MORE_STORES)


def calls_with(store):
    return [
        (put_to, [store, (1, 1, 1)]), (without, [store, 0]), (grown, [store, 2, 3]), (beaten, [store]),
        (unbeaten, [store]), (like_joined, [store]), (never_in, [store, 5, 3]),
    ]


class PutTo(Told):
    def test_behind_the_others(self):
        for kind in KINDS:
            for store in [(), STORE, TWELVE[:11], GREAT]:
                self.same(put_to(store, kind), store + (kind,))

    def test_a_twelfth_and_a_thirteenth(self):
        self.same(put_to(TWELVE[:11], TWELVE[11]), TWELVE)
        for kind in KINDS:
            self.refused(TooMany, put_to, TWELVE, kind)

    def test_no_kinds(self):
        for kind in no_kinds() + [STORE, (STORE[0],)]:
            for store in [(), STORE, TWELVE[:11], TWELVE]:
                self.refused(NoKind, put_to, store, kind)


class Without(Told):
    def test_each_place(self):
        for store in [STORE, TWELVE, GREAT, ((1, 1, None),)]:
            for place in range(len(store)):
                self.same(without(store, place), tuple(kind for at, kind in enumerate(store) if at != place))
        self.same(without(STORE, 0), STORE[1:])
        self.same(without(STORE, 2), STORE[:2])

    def test_what_was_put_to_it_is_left_out_again(self):
        for store in some_stores():
            self.same(without(put_to(store, (7, 7, 7)), len(store)), store)

    def test_no_places(self):
        for store in [(), STORE, TWELVE]:
            for place in no_counts() + [len(store), len(store) + 1, 13, BIG, -1, -2, -3, -12]:
                self.refused(NoNumber, without, store, place)
        self.refused(NoNumber, without, (), 0)


class Grown(Told):
    def test_each_so_many_times(self):
        for store in each_store():
            for weight, worth in [(1, 1), (2, 1), (1, 3), (7, 5), (BIG, BIG - 1)]:
                wanted = tuple((kind[0] * weight, kind[1] * worth, kind[2]) for kind in store)
                self.same(grown(store, weight, worth), wanted)
                self.assertIs(is_store(wanted), True)

    def test_what_is_none(self):
        for store in [(), STORE, TWELVE]:
            for thing in no_counts() + [0, -1, -2]:
                self.refused(NoNumber, grown, store, thing, 1)
                self.refused(NoNumber, grown, store, 1, thing)
                self.refused(NoNumber, grown, store, thing, thing)

    def test_the_best_worth_grows_like_the_worths(self):
        for store in some_stores():
            plain = best_worths(store, 9)
            for weight, worth in [(1, 4), (3, 1), (5, 7)]:
                told = best_worths(grown(store, weight, worth), 9 * weight)
                self.same(told[::weight], [best * worth for best in plain])
                for room in range(10):
                    more = grown(store, weight, worth)
                    self.same(best_load(more, room * weight), best_load(store, room))


class Beaten(Told):
    def test_against_the_words(self):
        for store in each_store():
            with self.subTest(store=store):
                pairs = beaten_of(store)
                self.same(beaten(store), pairs)
                out = [place for place, by in pairs]
                self.same(unbeaten(store), tuple(kind for place, kind in enumerate(store) if place not in out))

    def test_some(self):
        self.same(beaten(()), [])
        self.same(unbeaten(()), ())
        self.same(beaten(((2, 3, None), (3, 3, 1))), [(1, 0)])
        self.same(beaten(((3, 3, 1), (2, 3, None))), [(0, 1)])
        self.same(unbeaten(((3, 3, 1), (2, 3, None))), ((2, 3, None),))
        # Just so often as may be is not without end.
        self.same(beaten(((2, 3, BIG), (3, 3, 1))), [])
        self.same(beaten(((2, 3, None), (1, 3, None), (2, 4, None))), [(0, 1)])
        # Lighter, or worth more, alone is not enough.
        self.same(beaten(((2, 3, None), (1, 1, None))), [])

    def test_of_two_that_beat_one_another_the_greater_place(self):
        self.same(beaten(((2, 3, None), (2, 3, None))), [(1, 0)])
        self.same(beaten(((2, 3, None),) * 4), [(1, 0), (2, 0), (3, 0)])
        self.same(unbeaten(((2, 3, None),) * 12), ((2, 3, None),))
        # The one that is not without end does not beat, whatever its place.
        self.same(beaten(((2, 3, 5), (2, 3, None))), [(0, 1)])
        self.same(beaten(((2, 3, None), (2, 3, 5))), [(1, 0)])

    def test_by_the_least_place_that_beats_it(self):
        # Though that one is beaten itself.
        self.same(beaten(((3, 3, None), (2, 3, None), (5, 1, 4))), [(0, 1), (2, 0)])
        self.same(unbeaten(((3, 3, None), (2, 3, None), (5, 1, 4))), ((2, 3, None),))
        self.same(beaten(((9, 9, 9), (2, 3, None), (2, 4, None), (5, 1, 4), (1, 9, None))), [(0, 4), (1, 2), (2, 4), (3, 1)])

    def test_one_that_is_not_there_may_be_beaten(self):
        self.same(beaten(((5, 9, 0), (5, 9, None), (6, 9, 0))), [(0, 1), (2, 1)])

    def test_the_best_worth_is_the_same(self):
        for store in each_store():
            self.same(best_worths(unbeaten(store), 20), best_worths(store, 20))
            self.same(beaten(unbeaten(store)), [])


class LikeJoined(Told):
    def test_against_the_words(self):
        for store in each_store():
            self.same(like_joined(store), joined_of(store))

    def test_some(self):
        self.same(like_joined(()), ())
        self.same(like_joined(STORE), STORE)
        self.same(like_joined(((2, 3, 1), (2, 3, 4))), ((2, 3, 5),))
        self.same(like_joined(((2, 3, 1), (1, 1, 1), (2, 3, 4), (1, 1, 0), (2, 3, 0))), ((2, 3, 5), (1, 1, 1)))
        self.same(like_joined(((2, 3, 0), (2, 3, 0))), ((2, 3, 0),))
        self.same(like_joined(((2, 3, 1), (2, 3, None), (2, 3, 7))), ((2, 3, None),))
        self.same(like_joined(((2, 3, None), (2, 3, None))), ((2, 3, None),))
        self.same(like_joined(((2, 3, 1), (3, 2, 1), (2, 4, 1), (3, 3, 1))), ((2, 3, 1), (3, 2, 1), (2, 4, 1), (3, 3, 1)))
        self.same(like_joined(((BIG, BIG, BIG),) * 12), ((BIG, BIG, 12 * BIG),))

    def test_the_best_worth_is_the_same(self):
        for store in each_store():
            joined = like_joined(store)
            self.same(best_worths(joined, 20), best_worths(store, 20))
            self.same(like_joined(joined), joined)
            for room in [0, 7, BIG]:
                self.same(share_worth(joined, room), share_worth(store, room))


class NeverIn(Told):
    def test_against_fractions(self):
        for store in each_store():
            for room in [0, 1, 2, 5, 9, BIG]:
                best = whole_bound(store, room)
                for u in [-BIG, -1, 0, 1, 2, best - 1, best, best + 1, best + BIG]:
                    with self.subTest(store=store, room=room, u=u):
                        self.same(never_in(store, room, u), never_of(store, room, u))

    def test_no_load_that_fits_and_has_so_much_has_them(self):
        for store in some_stores():
            for room in range(7):
                for u in [-1, 0, 1, 3, 6, 9]:
                    never = never_in(store, room, u)
                    for load in all_that_fit(store, room):
                        if comes_to(store, load, 1) >= u:
                            self.assertEqual([place for place in never if load[place] > 0], [])

    def test_some(self):
        self.same(never_in((), 0, 0), [])
        self.same(never_in((), BIG, BIG), [])
        # The last is there not at all; with one of the second no more than 5 is had in the room 5.
        self.same(never_in(STORE, 5, 0), [2])
        self.same(never_in(STORE, 5, 7), [1, 2])
        self.same(never_in(STORE, 5, 8), [1, 2])
        self.same(never_in(STORE, 5, 9), [0, 1, 2])
        self.same(never_in(STORE, 2, -BIG), [0, 2])
        self.same(never_in(STORE, 0, 0), [0, 1, 2])
        self.same(never_in(STORE, 6, 10), [1, 2])
        self.same(never_in(STORE, 7, 10), [2])
        self.same(never_in(STORE, 7, 11), [0, 1, 2])
        self.same(never_in(STORE, BIG, 10), [2])
        self.same(never_in(STORE, BIG, 11), [0, 1, 2])

    def test_one_less_of_this_kind_is_left(self):
        # A second one would reach 10, but one is there alone.
        self.same(never_in(((3, 5, 1),), 6, 6), [0])
        self.same(never_in(((3, 5, 2),), 6, 6), [])
        self.same(never_in(((3, 5, None),), 6, 10), [])
        self.same(never_in(((3, 5, None),), 6, 11), [0])

    def test_all_where_no_load_has_so_much_by_shares(self):
        for store in each_store():
            for room in [0, 5, 200]:
                self.same(never_in(store, room, whole_bound(store, room) + 1), list(range(len(store))))

    def test_the_best_load_has_none_of_them(self):
        for store in each_store():
            for room in [0, 3, 8, 14]:
                load = best_load(store, room)
                never = never_in(store, room, best_worth(store, room))
                self.assertEqual([place for place in never if load[place] > 0], [])


class Refusals(Told):
    def test_no_store_ahead_of_all(self):
        for store in no_stores():
            for asked, given in calls_with(store):
                self.refused(NoStore, asked, *given)
            for wrong in [None, -1, True, (0, 0, 0), ()]:
                self.refused(NoStore, put_to, store, wrong)
                self.refused(NoStore, without, store, wrong)
                self.refused(NoStore, grown, store, wrong, wrong)
                self.refused(NoStore, never_in, store, wrong, wrong)

    def test_no_number(self):
        for store in [(), STORE, TWELVE]:
            for room in no_counts():
                for u in [5, -5, None]:
                    self.refused(NoNumber, never_in, store, room, u)
            for u in no_wholes():
                for room in [0, 5, BIG, -1, None]:
                    self.refused(NoNumber, never_in, store, room, u)


class NothingIsChanged(Told):
    def test_what_was_handed_in_is_the_same_and_so_is_the_answer(self):
        for store in MORE_STORES + [()] + no_stores():
            for asked, given in calls_with(store):
                self.nothing_changes(asked, given)
        for thing in no_counts() + no_kinds():
            self.nothing_changes(put_to, [STORE, thing])
            self.nothing_changes(without, [STORE, thing])
            self.nothing_changes(grown, [STORE, thing, 1])
            self.nothing_changes(grown, [STORE, 1, thing])
            self.nothing_changes(never_in, [STORE, thing, 1])
            self.nothing_changes(never_in, [STORE, 1, thing])

    def test_a_told_list_is_the_askers_own(self):
        store = ((3, 3, None), (2, 3, None), (5, 1, 4))
        for asked, given in [(beaten, [store]), (never_in, [store, 4, 5]), (beaten, [()]), (never_in, [(), 0, 0])]:
            told = asked(*given)
            kept = copy.deepcopy(told)
            told.append("changed")
            told[0] = None
            self.same(asked(*given), kept)
            told.clear()
            self.same(asked(*given), kept)
            self.assertIsNot(asked(*given), asked(*given))
        self.same(unbeaten(store), ((2, 3, None),))


class WhatFollows(Told):
    def test_one_kind_more_and_the_best_is_no_less(self):
        for store in some_stores():
            plain = best_worths(store, 9)
            for kind in [(1, 0, None), (1, 2, 1), (5, 9, None), (3, 1, 0)]:
                for more, less in zip(best_worths(put_to(store, kind), 9), plain):
                    self.assertGreaterEqual(more, less)
            for place in range(len(store)):
                for less, more in zip(best_worths(without(store, place), 9), plain):
                    self.assertLessEqual(less, more)


if __name__ == "__main__":
    unittest.main()
