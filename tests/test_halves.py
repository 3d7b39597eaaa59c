import copy
import unittest

from sackloads.errors import NoNumber, NoStore, NotSingle
from sackloads.halves import half_loads, is_stair, met_load, met_worth, stair_for
from sackloads.stores import fits, is_load, worth
from sackloads.tables import best_load, best_worth
from tests.plain import all_best, best_of, halves_of, single_stores, stair_of, unbeaten_of
from tests.things import BIG, STORE, no_counts, no_stores, no_wholes, odd_things
from tests.told import Told

ROOMS = range(7)
FIVE = ((2, 3, 1), (1, 1, 1), (3, 4, 1), (2, 2, 1), (4, 7, 0))
TWELVE_SINGLE = tuple((3 + place * 7 % 11, 2 + place * 5 % 13, 1) for place in range(12))
GREAT = tuple((BIG - place * place, BIG - 7 * place, 1) for place in range(5))
NOT_SINGLE = [
    ((1, 1, 2),), ((1, 1, None),), ((1, 1, BIG),), ((1, 0, None), (2, 3, 1)), ((2, 3, 1), (1, 0, 2)),
    ((2, 3, 0), (1, 0, 2), (2, 3, 1)), ((1, 1, 1),) * 11 + ((1, 1, 2),), STORE, ((1, 1, None),) * 12,
]


def calls_with(store, room, goal):
    return [
        (half_loads, [store]), (met_worth, [store, room]), (met_load, [store, room]),
        (is_stair, [((0, 0),), store, room, goal]), (stair_for, [store, room, goal]),
    ]


class HalfLoads(Told):
    def test_against_the_words_for_beaten(self):
        for store in single_stores():
            with self.subTest(store=store):
                self.same(half_loads(store), tuple(unbeaten_of(kinds) for kinds in halves_of(store)))

    def test_of_none_of_one_and_of_an_odd_number(self):
        self.same(half_loads(()), ([(0, 0, ())], [(0, 0, ())]))
        self.same(half_loads(((3, 5, 1),)), ([(0, 0, ())], [(0, 0, (0,)), (3, 5, (1,))]))
        self.same(half_loads(((3, 5, 0),)), ([(0, 0, ())], [(0, 0, (0,))]))
        self.same(half_loads(((3, 0, 1),)), ([(0, 0, ())], [(0, 0, (0,))]))
        self.same(half_loads(((3, 5, 1), (1, 1, 1), (2, 3, 1))), (
            [(0, 0, (0,)), (3, 5, (1,))],
            [(0, 0, (0, 0)), (1, 1, (1, 0)), (2, 3, (0, 1)), (3, 4, (1, 1))],
        ))
        self.same(half_loads(FIVE), (
            [(0, 0, (0, 0)), (1, 1, (0, 1)), (2, 3, (1, 0)), (3, 4, (1, 1))],
            [(0, 0, (0, 0, 0)), (2, 2, (0, 1, 0)), (3, 4, (1, 0, 0)), (5, 6, (1, 1, 0))],
        ))

    def test_of_twelve(self):
        for store in [TWELVE_SINGLE, ((1, 1, 1),) * 12, ((1, 1, 0),) * 12, ((1, 0, 1),) * 12]:
            self.same(half_loads(store), (unbeaten_of(store[:6]), unbeaten_of(store[6:])))

    def test_of_the_same_weight_and_worth_only_the_first_stays(self):
        alike = ((2, 3, 1),) * 3
        told = [(0, 0, (0, 0, 0)), (2, 3, (0, 0, 1)), (4, 6, (0, 1, 1)), (6, 9, (1, 1, 1))]
        self.same(half_loads(alike + alike), (told, told))
        # (1, 1, 0) and (0, 0, 1) are of the same weight and worth.
        self.same(half_loads(((1, 1, 1), (2, 2, 1), (3, 3, 1)) + alike)[0], [
            (0, 0, (0, 0, 0)), (1, 1, (1, 0, 0)), (2, 2, (0, 1, 0)), (3, 3, (0, 0, 1)),
            (4, 4, (1, 0, 1)), (5, 5, (0, 1, 1)), (6, 6, (1, 1, 1)),
        ])

    def test_beaten_by_a_lighter_one_and_by_one_worth_more(self):
        self.same(half_loads(((1, 1, 0), (2, 5, 0), (2, 5, 1), (3, 5, 1)))[1], [
            (0, 0, (0, 0)), (2, 5, (1, 0)), (5, 10, (1, 1)),
        ])
        self.same(half_loads(((1, 1, 0), (2, 5, 0), (2, 4, 1), (2, 5, 1)))[1], [
            (0, 0, (0, 0)), (2, 5, (0, 1)), (4, 9, (1, 1)),
        ])
        # Worth more, though behind as tuples are ordered.
        self.same(half_loads(((1, 1, 0), (2, 5, 0), (2, 5, 1), (2, 4, 1)))[1], [
            (0, 0, (0, 0)), (2, 5, (1, 0)), (4, 9, (1, 1)),
        ])

    def test_thirty_figures(self):
        self.same(half_loads(GREAT), (unbeaten_of(GREAT[:2]), unbeaten_of(GREAT[2:])))
        self.same(half_loads(((BIG, BIG - 1, 1), (BIG - 1, BIG, 1))), (
            [(0, 0, (0,)), (BIG, BIG - 1, (1,))], [(0, 0, (0,)), (BIG - 1, BIG, (1,))],
        ))

    def test_the_told_lists_are_the_askers_own(self):
        for store in [(), FIVE, ((2, 3, 1),) * 4]:
            told = half_loads(store)
            kept = copy.deepcopy(told)
            self.assertIsNot(told[0], told[1])
            told[0][0] = "changed"
            told[1].append(77)
            self.same(half_loads(store), kept)
            told[0].clear()
            told[1].clear()
            self.same(half_loads(store), kept)
            self.same(met_load(store, 4), best_load(store, 4))


class Met(Told):
    def test_against_all_loads(self):
        for store in single_stores():
            for room in ROOMS:
                with self.subTest(store=store, room=room):
                    self.same(met_worth(store, room), best_of(store, room))
                    self.same(met_load(store, room), min(all_best(store, room)))

    def test_edges(self):
        self.same(met_worth((), 0), 0)
        self.same(met_load((), 0), ())
        self.same(met_load((), BIG), ())
        for store in [FIVE, TWELVE_SINGLE, GREAT]:
            self.same(met_worth(store, 0), 0)
            self.same(met_load(store, 0), (0,) * len(store))
        self.same(met_worth(((3, 5, 1),), 2), 0)
        self.same(met_worth(((3, 5, 1),), 3), 5)
        self.same(met_load(((3, 5, 1),), 3), (1,))
        self.same(met_load(((3, 5, 0),), 3), (0,))
        self.same(met_load(((3, 0, 1),), 3), (0,))

    def test_the_first_best_load_may_have_a_half_that_is_beaten(self):
        store = ((1, 3, 1), (2, 3, 1), (9, 1, 1), (9, 1, 1))
        self.assertNotIn((0, 1), [weighed[2] for weighed in half_loads(store)[0]])
        self.same(met_load(store, 2), (0, 1, 0, 0))
        self.same(met_load(store, 1), (1, 0, 0, 0))
        store = ((9, 1, 1), (9, 1, 1), (1, 3, 1), (2, 3, 1))
        self.assertNotIn((0, 1), [weighed[2] for weighed in half_loads(store)[1]])
        self.same(met_load(store, 2), (0, 0, 0, 1))
        self.same(met_load(store, 1), (0, 0, 1, 0))

    def test_of_twelve(self):
        for store in [TWELVE_SINGLE, ((2, 3, 1),) * 12, TWELVE_SINGLE[:6] * 2, ((1, 1, 0),) * 12]:
            for room in [0, 1, 2, 3, 5, 11, 23, 40, 41, 60, 100, 200]:
                with self.subTest(store=store, room=room):
                    self.same(met_worth(store, room), best_worth(store, room))
                    self.same(met_load(store, room), best_load(store, room))
        self.same(met_load(TWELVE_SINGLE, BIG), (1,) * 12)

    def test_rooms_whatever_their_size(self):
        for room in [0, BIG - 17, BIG - 16, BIG - 1, BIG, BIG + 1, 2 * BIG - 25, 2 * BIG, 3 * BIG, 5 * BIG]:
            self.same(met_load(GREAT, room), max(
                (load for load in self.loads_of_five(GREAT, room)),
                key=lambda load: (worth(GREAT, load), [-times for times in load]),
            ))
            self.same(met_worth(GREAT, room), worth(GREAT, met_load(GREAT, room)))
        self.same(met_worth(((BIG, BIG, 1),) * 12, 10 ** 40), 12 * BIG)
        self.same(met_worth(((1, 2, 1), (1, 3, 1)), 201), 5)

    def loads_of_five(self, store, room):
        loads = [tuple(number >> place & 1 for place in range(5)) for number in range(32)]
        return [load for load in loads if sum(kind[0] * times for kind, times in zip(store, load)) <= room]


class StairFor(Told):
    def test_gone_step_by_step(self):
        # The weights and worths are those of test_of_none_of_one_and_of_an_odd_number.
        self.same(stair_for(FIVE, 4, 6), ((0, 3), (0, 2), (1, 2), (2, 2), (2, 1), (3, 1), (3, 0)))
        self.same(stair_for(FIVE, 4, 5), None)
        self.same(stair_for(FIVE, 8, 11), ((0, 3), (1, 3), (2, 3), (3, 3)))
        self.same(stair_for(FIVE, 8, 10), None)
        self.same(stair_for(FIVE, 0, 1), ((0, 3), (0, 2), (0, 1), (0, 0), (1, 0)))
        self.same(stair_for((), 0, 1), ((0, 0),))
        self.same(stair_for((), BIG, BIG), ((0, 0),))
        self.same(stair_for(((3, 5, 1),), 2, 1), ((0, 1), (0, 0)))
        self.same(stair_for(((3, 5, 1),), 3, 6), ((0, 1),))
        self.same(stair_for(((3, 5, 1),), 3, 5), None)

    def test_against_the_words_for_it(self):
        for store in single_stores():
            for room in ROOMS:
                best = best_of(store, room)
                for goal in [-1, 0, 1, best - 1, best, best + 1, best + 5]:
                    with self.subTest(store=store, room=room, goal=goal):
                        wanted = stair_of(store, room, goal)
                        self.assertEqual(wanted is None, goal <= best)
                        self.same(stair_for(store, room, goal), wanted)

    def test_none_just_where_some_load_has_so_much(self):
        for store in [TWELVE_SINGLE, GREAT, ((2, 3, 1),) * 12]:
            for room in [0, 1, 30, 77, 2 * BIG, 5 * BIG, 12 * BIG]:
                best = met_worth(store, room)
                self.same(stair_for(store, room, best), None)
                stair = stair_for(store, room, best + 1)
                self.same(stair, stair_of(store, room, best + 1))
                self.assertIs(is_stair(stair, store, room, best + 1), True)

    def test_no_worth_and_one_below_0(self):
        for store in [(), FIVE, TWELVE_SINGLE]:
            for goal in [0, -1, -BIG]:
                self.same(stair_for(store, 5, goal), None)
                for thing in [None, (), ((0, 0),), ((0, 1),)]:
                    self.assertIs(is_stair(thing, store, 5, goal), False)


class IsStair(Told):
    def test_the_stair(self):
        for store in single_stores():
            for room in ROOMS:
                goal = best_of(store, room) + 1
                stair = stair_of(store, room, goal)
                self.assertIs(is_stair(stair, store, room, goal), True)
                self.assertIs(is_stair(stair, store, room, goal + BIG), True)
                self.assertIs(is_stair(stair, store, room, goal - 1), False)

    def wrong(self, thing, store, room, goal):
        with self.subTest(thing=thing, store=store, room=room, goal=goal):
            kept = copy.deepcopy(thing)
            self.assertIs(is_stair(thing, store, room, goal), False)
            self.same(thing, kept)

    def test_a_step_left_out_put_in_twice_or_exchanged(self):
        for store, room in [(FIVE, 4), (FIVE, 8), (FIVE, 0), (TWELVE_SINGLE, 40), ((), 3), (((3, 5, 1),), 2)]:
            goal = met_worth(store, room) + 1
            stair = stair_for(store, room, goal)
            for place in range(len(stair)):
                step = stair[place]
                self.wrong(stair[:place] + stair[place + 1:], store, room, goal)
                self.wrong(stair[:place] + (step,) + stair[place:], store, room, goal)
                self.wrong(stair[:place] + stair[place + 1:] + (step,) + ((0, 0),), store, room, goal)
                self.wrong(stair[:place] + ((0, 0),) + stair[place:], store, room, goal)
                for other in [(step[0] + 1, step[1]), (step[0], step[1] - 1), (step[0] - 1, step[1]), (-1, -1)]:
                    self.wrong(stair[:place] + (other,) + stair[place + 1:], store, room, goal)
                    self.wrong(stair[:place] + (other,) + stair[place:], store, room, goal)
                if step[0] != step[1]:
                    self.wrong(stair[:place] + ((step[1], step[0]),) + stair[place + 1:], store, room, goal)
                if place > 0:
                    turned = (stair[place], stair[place - 1])
                    self.wrong(stair[:place - 1] + turned + stair[place + 1:], store, room, goal)
            if len(stair) > 1:
                self.wrong(tuple(reversed(stair)), store, room, goal)
            self.wrong(stair + ((stair[-1][0] + 1, stair[-1][1]),), store, room, goal)
            self.wrong((), store, room, goal)

    def test_true_in_the_place_of_1_and_false_in_that_of_0(self):
        stair = stair_for(FIVE, 4, 6)
        for place, step in enumerate(stair):
            for at in range(2):
                if step[at] in (0, 1):
                    changed = list(step)
                    changed[at] = bool(step[at])
                    self.wrong(stair[:place] + (tuple(changed),) + stair[place + 1:], FIVE, 4, 6)
        self.wrong(((False, 0),), (), 0, 1)
        self.wrong(((0, False),), (), 0, 1)
        self.wrong(((False, False),), (), 0, 1)

    def test_lists_in_the_place_of_tuples(self):
        stair = stair_for(FIVE, 4, 6)
        self.wrong(list(stair), FIVE, 4, 6)
        self.wrong([list(step) for step in stair], FIVE, 4, 6)
        self.wrong(tuple(list(step) for step in stair), FIVE, 4, 6)
        for place, step in enumerate(stair):
            self.wrong(stair[:place] + (list(step),) + stair[place + 1:], FIVE, 4, 6)
            self.wrong(stair[:place] + (step + (0,),) + stair[place + 1:], FIVE, 4, 6)
            self.wrong(stair[:place] + (step[:1],) + stair[place + 1:], FIVE, 4, 6)
        self.wrong({step: True for step in stair}, FIVE, 4, 6)

    def test_a_stair_of_another_room_worth_or_store(self):
        self.wrong(stair_for(FIVE, 3, 6), FIVE, 4, 6)
        self.wrong(stair_for(FIVE, 8, 11), FIVE, 4, 6)
        self.wrong(stair_for(FIVE, 4, 6), FIVE, 3, 6)
        self.wrong(stair_for(FIVE, 4, 6), FIVE, 4, 5)
        self.wrong(stair_for(FIVE, 4, 6), FIVE, 4, 0)
        self.wrong(stair_for(FIVE, 4, 6), FIVE, 4, -BIG)
        self.wrong(stair_for(FIVE, 4, 6), tuple(reversed(FIVE)), 4, 6)
        self.wrong(stair_for(FIVE, 4, 6), FIVE[:3], 4, 6)

    def test_steps_gone_on_past_a_load_with_so_much(self):
        # What the walk would be if nothing ended it: there is no stair of so little worth.
        for store, room in [(FIVE, 4), (FIVE, 8), (TWELVE_SINGLE, 40), ((), 3)]:
            best = met_worth(store, room)
            long = stair_for(store, room, best + 1)
            for end in range(len(long) + 1):
                self.wrong(long[:end], store, room, best)
            self.wrong(None, store, room, best)

    def test_things_of_other_kinds(self):
        steps = odd_things() + [5, "", (), (0,), (0, 3, 0), [0, 3], {0: 3}, "03", (0, "3"), (None, 3), ((0,), (3,))]
        for thing in odd_things() + [5, 0, "", (), "((0, 3),)", (0, 3), ((), ()), FIVE, STORE]:
            self.wrong(thing, FIVE, 4, 6)
            self.wrong(thing, (), 0, 1)
        stair = stair_for(FIVE, 4, 6)
        for step in steps:
            self.wrong((step,), FIVE, 4, 6)
            self.wrong((step,), (), 0, 1)
            for place in range(len(stair)):
                self.wrong(stair[:place] + (step,) + stair[place + 1:], FIVE, 4, 6)


class Refusals(Told):
    def test_no_store_ahead_of_all(self):
        for store in no_stores():
            for room in [5, -1, None, True]:
                for goal in [5, None]:
                    for asked, given in calls_with(store, room, goal):
                        self.refused(NoStore, asked, *given)

    def test_no_number_ahead_of_not_single(self):
        for store in [FIVE, (), ((1, 1, 2),), ((1, 1, None),) * 12]:
            for room in no_counts():
                for asked, given in calls_with(store, room, 5)[1:]:
                    self.refused(NoNumber, asked, *given)
            for goal in no_wholes():
                for room in [5, 0, -1, None]:
                    for asked, given in calls_with(store, room, goal)[3:]:
                        self.refused(NoNumber, asked, *given)

    def test_not_single(self):
        for store in NOT_SINGLE:
            for room in [0, 5, 201, BIG]:
                for goal in [0, 5, -5, BIG]:
                    for asked, given in calls_with(store, room, goal):
                        self.refused(NotSingle, asked, *given)

    def test_whatever_the_thing_it_is_refused_likewise(self):
        for thing in odd_things() + [(), ((0, 0),)]:
            self.refused(NoStore, is_stair, thing, None, 5, 5)
            self.refused(NoNumber, is_stair, thing, FIVE, -1, 5)
            self.refused(NoNumber, is_stair, thing, FIVE, 5, None)
            self.refused(NotSingle, is_stair, thing, ((1, 1, 2),), 5, 5)

    def test_no_room_is_too_great(self):
        for room in [200, 201, BIG, 10 ** 40]:
            self.same(met_worth(FIVE, room), 10)
            self.same(met_load(FIVE, room), (1, 1, 1, 1, 0))
            self.same(stair_for(FIVE, room, 10), None)
            self.same(stair_for(FIVE, room, 10 ** 40), ((0, 3), (1, 3), (2, 3), (3, 3)))


class NothingIsChanged(Told):
    def test_what_was_handed_in_is_the_same_and_so_is_the_answer(self):
        for store in [(), FIVE, TWELVE_SINGLE, GREAT, STORE]:
            for room in [0, 4, BIG]:
                for goal in [-1, 0, 6, BIG * BIG]:
                    for asked, given in calls_with(store, room, goal):
                        self.nothing_changes(asked, given)
        for thing in no_stores() + no_counts():
            for asked, given in calls_with(thing, 4, 6) + calls_with(FIVE, thing, 6) + calls_with(FIVE, 4, thing):
                self.nothing_changes(asked, given)
            self.nothing_changes(is_stair, [thing, FIVE, 4, 6])


class WhatFollows(Told):
    def test_the_heavier_one_is_worth_more(self):
        for store in single_stores():
            for told in half_loads(store):
                for one, other in zip(told, told[1:]):
                    self.assertLess(one[0], other[0])
                    self.assertLess(one[1], other[1])

    def test_the_best_worth_is_had_by_two_that_are_not_beaten(self):
        for store in single_stores():
            firsts, seconds = half_loads(store)
            for room in ROOMS:
                worths = [one[1] + other[1] for one in firsts for other in seconds if one[0] + other[0] <= room]
                self.assertEqual(max(worths), met_worth(store, room))

    def test_the_same_as_by_tables(self):
        for store in single_stores():
            for room in ROOMS:
                load = met_load(store, room)
                self.assertIs(is_load(load, store), True)
                self.assertIs(fits(store, load, room), True)
                self.same(load, best_load(store, room))
                self.same(met_worth(store, room), best_worth(store, room))

    def test_with_more_room_or_one_kind_more_the_best_is_no_less(self):
        for store in [FIVE, TWELVE_SINGLE[:11], GREAT]:
            told = [met_worth(store, room) for room in [0, 1, 2, 5, 8, 30, BIG, 3 * BIG, 9 * BIG]]
            self.assertEqual(told, sorted(told))
            for kind in [(1, 2, 1), (1, 0, 1), (5, 9, 0)]:
                for room in [0, 3, 9, 30, BIG]:
                    self.assertGreaterEqual(met_worth(store + (kind,), room), met_worth(store, room))


if __name__ == "__main__":
    unittest.main()
