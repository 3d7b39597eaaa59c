import copy
import itertools
import unittest

from sackloads.endless import endless_worth, lead, start
from sackloads.errors import NoNumber, NoStore, NotEndless, TooMany
from sackloads.rests import rest_bound, rest_paper
from sackloads.tables import best_worth
from tests.plain import best_of, endless_bests, endless_stores, is_rest_paper_of, lead_of, start_of
from tests.things import BIG, NOT_ENDLESS, STORE, TOO_HEAVY, no_counts, no_stores, odd_things
from tests.told import Told

SIX_NINE = ((6, 11, None), (9, 16, None), (20, 35, None))
GREAT = ((7, BIG, None), (13, BIG - 1, None), (20, BIG, None), (1, 1, None))
FIVE_THREE = ((5, 8, None), (3, 4, None), (2, 1, None))
MORE_STORES = [
    SIX_NINE, GREAT, FIVE_THREE, ((20, 1, None),), ((20, 21, None), (19, 19, None)), ((1, 0, None),),
    ((20, 0, None), (3, 0, None)), ((19, 40, None), (20, 42, None), (17, 35, None)), ((4, 9, None),) * 12,
    ((20, 40, None), (13, 25, None), (11, 21, None), (7, 12, None), (2, 3, None)),
]
ROOMS = [0, 1, 2, 5, 17, 200, 201, BIG]


def each_store():
    return itertools.chain(endless_stores(), MORE_STORES)


def papers_of(store, most):
    """All rest papers with numbers up to so much."""
    many = store[lead_of(store)][0]
    for rest in itertools.product(range(most + 1), repeat=many - 1):
        if is_rest_paper_of((0,) + rest, store):
            yield (0,) + rest


class RestPaper(Told):
    def test_it_has_the_greatest_numbers(self):
        for store in endless_stores():
            with self.subTest(store=store):
                told = rest_paper(store)
                self.assertIs(is_rest_paper_of(told, store), True)
                highest = tuple(max(numbers) for numbers in zip(*papers_of(store, max(told) + 1)))
                self.same(told, highest)

    def test_each_number_one_more_is_none(self):
        for store in each_store():
            told = rest_paper(store)
            self.assertIs(is_rest_paper_of(told, store), True)
            for place, number in enumerate(told):
                self.same(rest_bound(told[:place] + (number + 1,) + told[place + 1:], store, 5), None)

    def test_some(self):
        self.same(rest_paper(((1, 5, None),)), (0,))
        self.same(rest_paper(((1, 5, None), (1, 5, None), (20, 7, None))), (0,))
        self.same(rest_paper(((4, 3, None),)), (0, 3, 6, 9))
        self.same(rest_paper(((4, 0, None), (7, 0, None))), (0, 0, 0, 0))
        # The losses are 0, 4 and 11: a rest of 1 by two of weight 3, one of 4 by three.
        self.same(rest_paper(FIVE_THREE), (0, 8, 11, 4, 12))
        self.same(rest_paper(SIX_NINE), (0, 11, 10, 3, 14, 13))
        self.same(rest_paper(((20, BIG, None),)), tuple(BIG * place for place in range(20)))

    def test_its_bound_is_the_best_worth_from_the_start_on(self):
        for store in each_store():
            paper = rest_paper(store)
            far = start_of(store)
            bests = endless_bests(store, far + 45)
            for room in range(far, far + 45):
                self.same(rest_bound(paper, store, room), bests[room])
            for room in [BIG, BIG - 1, BIG - 11, 10 ** 40]:
                self.same(rest_bound(paper, store, room), endless_worth(store, room))

    def test_against_all_loads(self):
        for store in endless_stores():
            if len(store) < 3:
                paper = rest_paper(store)
                for room in range(start_of(store), start_of(store) + 3):
                    self.same(rest_bound(paper, store, room), best_of(store, room))


class RestBound(Told):
    def test_of_each_paper_no_load_that_fits_is_worth_more(self):
        for store in endless_stores():
            if len(store) < 3:
                weight, gain, most = store[lead_of(store)]
                bests = endless_bests(store, 20)
                for paper in papers_of(store, 4):
                    for room, best in enumerate(bests):
                        told = rest_bound(paper, store, room)
                        self.same(told, (room * gain - paper[room % weight]) // weight)
                        self.assertGreaterEqual(told, best)

    def test_lesser_numbers(self):
        for store in each_store():
            weight, gain, most = store[lead_of(store)]
            for room in ROOMS:
                self.same(rest_bound((0,) * weight, store, room), room * gain // weight)

    def test_some(self):
        paper = (0, 8, 11, 4, 12)
        self.same([rest_bound(paper, FIVE_THREE, room) for room in range(11)], [0, 0, 1, 4, 4, 8, 8, 9, 12, 12, 16])
        self.same([rest_bound((0, 7, 11, 3, 11), FIVE_THREE, room) for room in range(5)], [0, 0, 1, 4, 4])
        self.same(rest_bound((0,), ((1, 5, None),), BIG), 5 * BIG)

    def test_each_tuple_of_small_numbers_against_the_words(self):
        for store in [((3, 5, None), (2, 3, None)), ((3, 4, None), (1, 1, None)), ((2, 3, None),), ((3, 0, None),)]:
            many = store[lead_of(store)][0]
            for thing in itertools.product(range(-1, 8), repeat=many):
                good = is_rest_paper_of(thing, store)
                self.assertEqual(rest_bound(thing, store, 8) is not None, good, thing)


class NoRestPaper(Told):
    def wrong(self, thing, store=FIVE_THREE, room=7):
        with self.subTest(thing=thing, store=store, room=room):
            kept = copy.deepcopy(thing)
            self.same(rest_bound(thing, store, room), None)
            self.same(thing, kept)

    def test_a_number_changed(self):
        for store in [FIVE_THREE, SIX_NINE, ((1, 5, None),), ((4, 0, None),)]:
            paper = rest_paper(store)
            low = (0,) * len(paper)
            for place in range(len(paper)):
                for thing in odd_things() + ["", (), (0,), [0]]:
                    for start_paper in [paper, low]:
                        self.wrong(start_paper[:place] + (thing,) + start_paper[place + 1:], store)
            for number in [1, 2, 5, BIG, -1]:
                self.wrong((number,) + paper[1:], store)
                self.wrong((number,) * len(paper), store)

    def test_true_in_the_place_of_1_and_false_in_that_of_0(self):
        self.same(rest_bound((0, 1, 0, 0, 0), FIVE_THREE, 7), 11)
        self.wrong((0, True, 0, 0, 0))
        self.wrong((False, 1, 0, 0, 0))
        self.wrong((0, 1, 0, 0, False))
        self.wrong((False,), ((1, 5, None),))

    def test_numbers_left_out_or_put_in(self):
        for store in [FIVE_THREE, SIX_NINE, ((1, 5, None),), ((4, 0, None),)]:
            paper = rest_paper(store)
            for place, number in enumerate(paper):
                self.wrong(paper[:place] + paper[place + 1:], store)
                self.wrong(paper[:place] + (number,) + paper[place:], store)
                self.wrong(paper[:place] + (0,) + paper[place:], store)
            self.wrong(paper + (0,), store)
            self.wrong((), store)

    def test_beyond_the_last_place_at_0_again(self):
        # By weight 3, with a loss of 4, it goes from 3 to 1 and from 4 to 2.
        store = ((5, 8, None), (3, 4, None))
        self.same(rest_bound((0, 8, 16, 4, 12), store, 5), 8)
        self.wrong((0, 8, 16, 3, 11), store)
        self.same(rest_bound((0, 7, 15, 3, 11), store, 5), 8)
        self.wrong((0, 7, 16, 3, 11), store)
        self.wrong((0, 8, 15, 3, 11), store)
        for place in range(1, 5):
            paper = [0, 8, 16, 4, 12]
            paper[place] += 1
            self.wrong(tuple(paper), store)

    def test_lists_and_things_of_other_kinds(self):
        paper = rest_paper(FIVE_THREE)
        self.wrong(list(paper))
        self.wrong({place: number for place, number in enumerate(paper)})
        self.wrong("00000")
        self.wrong([0], ((1, 5, None),))
        self.wrong("0", ((1, 5, None),))
        for thing in odd_things() + [5, "", (), (0,), ((0, 1), (0, 2), (0, 3)), STORE, FIVE_THREE]:
            self.wrong(thing)
            self.wrong((thing,) * 5)
            self.wrong((0, thing, 0, 0, 0))
        self.wrong(0)

    def test_a_paper_of_another_store(self):
        self.wrong(rest_paper(((5, 8, None),)))
        self.wrong(rest_paper(((5, 8, None), (3, 4, None))))
        self.wrong(rest_paper(SIX_NINE))


class Refusals(Told):
    def test_no_store_ahead_of_all(self):
        for store in no_stores():
            self.refused(NoStore, rest_paper, store)
            for room in [5, -1, None]:
                self.refused(NoStore, rest_bound, (0,), store, room)

    def test_no_number_ahead_of_not_endless_and_too_many(self):
        for store in [SIX_NINE, (), STORE, NOT_ENDLESS[1], TOO_HEAVY[0]]:
            for room in no_counts():
                self.refused(NoNumber, rest_bound, (0,), store, room)

    def test_not_endless_ahead_of_too_many(self):
        for store in NOT_ENDLESS:
            self.refused(NotEndless, rest_paper, store)
            for room in ROOMS:
                self.refused(NotEndless, rest_bound, (0,), store, room)

    def test_too_heavy(self):
        for store in TOO_HEAVY:
            self.refused(TooMany, rest_paper, store)
            for room in ROOMS:
                self.refused(TooMany, rest_bound, (0,), store, room)
        rest_paper(((20, 5, None),))
        rest_bound((0,), ((20, 5, None),), 201)

    def test_whatever_the_thing_it_is_refused_likewise(self):
        for thing in odd_things() + [(), (0,), [0]]:
            self.refused(NoStore, rest_bound, thing, None, 5)
            self.refused(NoNumber, rest_bound, thing, SIX_NINE, -1)
            self.refused(NotEndless, rest_bound, thing, STORE, 5)
            self.refused(TooMany, rest_bound, thing, TOO_HEAVY[0], 5)


class NothingIsChanged(Told):
    def test_what_was_handed_in_is_the_same_and_so_is_the_answer(self):
        for store in [SIX_NINE, GREAT, STORE, TOO_HEAVY[0], ()] + no_stores():
            self.nothing_changes(rest_paper, [store])
            for room in [0, 7, BIG, None]:
                self.nothing_changes(rest_bound, [(0, 0, 0, 0, 0, 0), store, room])
        for thing in no_counts() + no_stores():
            self.nothing_changes(rest_bound, [thing, SIX_NINE, 7])
            self.nothing_changes(rest_bound, [(0, 0, 0, 0, 0, 0), SIX_NINE, thing])


class WhatFollows(Told):
    def test_the_bound_is_never_less_than_the_best_worth(self):
        for store in MORE_STORES:
            paper = rest_paper(store)
            for room in range(0, 60):
                self.assertGreaterEqual(rest_bound(paper, store, room), endless_worth(store, room))
            for room in range(start(store), 201, 13):
                self.same(rest_bound(paper, store, room), best_worth(store, room))
            self.assertEqual(len(paper), store[lead(store)][0])


if __name__ == "__main__":
    unittest.main()
