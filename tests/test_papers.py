import copy
import itertools
import unittest

from sackloads.errors import NoNumber, NoStore, TooMany
from sackloads.papers import cut_for, is_cut, table_bound, table_paper
from sackloads.shares import bound, share_worth, some_price
from sackloads.tables import best_worth, best_worths
from tests.plain import all_that_fit, best_of, comes_to, is_cut_of, keeps_table, some_stores
from tests.things import BIG, STORE, TWELVE, no_counts, no_prices, no_stores, no_wholes, odd_things
from tests.told import Told

ROOMS = range(7)
THREE = ((3, 5, 2), (2, 3, None), (4, 4, 0))
GREAT = ((BIG, BIG, BIG), (BIG - 1, BIG - 1, None), (1, BIG, BIG), (1, BIG - 1, None), (2, 2 * BIG, 1))
LIKE = ((2, 3, 1), (2, 3, 1), (2, 3, None))
EVEN = ((2, 2, None), (4, 4, 1), (6, 6, None))
# Where no load fills the odd room: shares alone show nothing, so each kind has to be cut by.
EVEN_TWELVE = tuple((2 * place + 2, 10 ** 20 * (2 * place + 2) + place ** 5, None) for place in range(12))


def with_row(paper, place, row):
    return paper[:place] + [row] + paper[place + 1:]


def with_number(paper, place, size, number):
    row = paper[place]
    return with_row(paper, place, row[:size] + (number,) + row[size + 1:])


def calls_with(store, room, u):
    return [
        (table_bound, [[(0, 0)], store, room]), (table_paper, [store, room]),
        (is_cut, [("price", (1, 2)), store, room, u]), (cut_for, [store, room, u]),
    ]


class TablePaper(Told):
    def test_the_least_numbers_are_the_best_worths_of_the_first_kinds(self):
        for store in some_stores():
            for room in ROOMS:
                with self.subTest(store=store, room=room):
                    wanted = []
                    for many in range(len(store) + 1):
                        wanted.append(tuple(best_of(store[:many], size) for size in range(room + 1)))
                    self.same(table_paper(store, room), wanted)
                    self.same(table_bound(wanted, store, room), best_of(store, room))

    def test_some(self):
        self.same(table_paper((), 0), [(0,)])
        self.same(table_paper((), 3), [(0, 0, 0, 0)])
        self.same(table_paper(STORE, 0), [(0,)] * 4)
        self.same(table_paper(THREE, 4), [(0, 0, 0, 0, 0), (0, 0, 0, 5, 5), (0, 0, 3, 5, 6), (0, 0, 3, 5, 6)])
        self.same(table_bound([(0,)], (), 0), 0)
        self.same(table_bound([(7,)], (), 0), 7)
        self.same(table_bound([(7, 3)], (), 1), 3)
        # Rooms less than every weight.
        self.same(table_paper(((7, 1, 3), (9, 5, None)), 6), [(0,) * 7] * 3)

    def test_the_room_two_hundred(self):
        for store in [(), STORE, TWELVE, GREAT, ((1, 1, None),) * 12]:
            paper = table_paper(store, 200)
            self.assertEqual([len(row) for row in paper], [201] * (len(store) + 1))
            self.same(list(paper[-1]), best_worths(store, 200))
            self.same(table_bound(paper, store, 200), best_worth(store, 200))
            raised = with_number(paper, len(store), 200, paper[-1][200] + BIG)
            self.same(table_bound(raised, store, 200), best_worth(store, 200) + BIG)

    def test_greater_numbers(self):
        for store in [(), THREE, LIKE, STORE, TWELVE, GREAT]:
            for room in [0, 1, 5]:
                paper = table_paper(store, room)
                for more in [1, 7, BIG]:
                    self.same(table_bound([tuple(number + more for number in row) for row in paper], store, room),
                              paper[-1][-1] + more)
                    higher = [tuple(number + more * place for number in row) for place, row in enumerate(paper)]
                    self.same(table_bound(higher, store, room), higher[-1][-1])
                # It need not rise, if only it is high enough.
                last = tuple(paper[-1][-1] + room - size for size in range(room + 1))
                self.same(table_bound(with_row(paper, len(store), last), store, room), paper[-1][-1])

    def test_each_number_changed_by_one_against_the_words(self):
        for store in [THREE, LIKE, STORE, ((1, 0, None), (2, 5, 1)), ((3, 1, 0),), ()]:
            for room in [0, 1, 4]:
                paper = table_paper(store, room)
                for start in [paper, [tuple(number + 2 * place for number in row) for place, row in enumerate(paper)]]:
                    for place, row in enumerate(start):
                        for size, number in enumerate(row):
                            for more in [-2, -1, 1, 2, 3]:
                                if number + more >= 0:
                                    changed = with_number(start, place, size, number + more)
                                    good = keeps_table(changed, store, room)
                                    wanted = changed[-1][-1] if good else None
                                    self.same(table_bound(changed, store, room), wanted)

    def test_a_number_one_less_than_the_least(self):
        for store in [THREE, LIKE, STORE, TWELVE]:
            paper = table_paper(store, 9)
            for place, row in enumerate(paper):
                for size, number in enumerate(row):
                    self.same(table_bound(with_number(paper, place, size, number - 1), store, 9), None)

    def test_no_load_that_fits_is_worth_more(self):
        for store in [THREE, LIKE, EVEN]:
            for lift in itertools.product(range(3), repeat=len(store) + 1):
                paper = [tuple(number + more for number in row) for row, more in zip(table_paper(store, 5), lift)]
                told = table_bound(paper, store, 5)
                if told is not None:
                    for load in all_that_fit(store, 5):
                        self.assertLessEqual(comes_to(store, load, 1), told)


class NoTablePaper(Told):
    def wrong(self, thing, store=THREE, room=4):
        with self.subTest(thing=thing, store=store, room=room):
            kept = copy.deepcopy(thing)
            self.same(table_bound(thing, store, room), None)
            self.same(thing, kept)

    def test_things_in_the_place_of_a_number(self):
        paper = [tuple(number + 1 for number in row) for row in table_paper(THREE, 4)]
        ones = [tuple(1 for number in row) for row in table_paper((), 4)]
        self.same(table_bound(ones, (), 4), 1)
        for thing in odd_things() + ["", (), (1,), [1]]:
            for place, row in enumerate(paper):
                for size in range(len(row)):
                    self.wrong(with_number(paper, place, size, thing))
            for size in range(5):
                self.wrong(with_number(ones, 0, size, thing), ())
        self.wrong([(False,)], (), 0)
        self.wrong([(True,)], (), 0)
        self.wrong([(-1,)], (), 0)

    def test_tuples_left_out_put_in_shorter_or_longer(self):
        paper = table_paper(THREE, 4)
        for place, row in enumerate(paper):
            self.wrong(paper[:place] + paper[place + 1:])
            self.wrong(paper[:place] + [row] + paper[place:])
            self.wrong(with_row(paper, place, row[:-1]))
            self.wrong(with_row(paper, place, row[1:]))
            self.wrong(with_row(paper, place, row + (row[-1] + 9,)))
            self.wrong(with_row(paper, place, ()))
        self.wrong([])
        self.wrong([], (), 0)
        self.wrong([()], (), 0)
        self.wrong([(0, 0)], (), 0)
        self.wrong([(0,), (0,)], (), 0)

    def test_a_list_in_the_place_of_a_tuple_and_the_other_way(self):
        paper = table_paper(THREE, 4)
        self.wrong(tuple(paper))
        self.wrong([list(row) for row in paper])
        self.wrong({place: row for place, row in enumerate(paper)})
        for place, row in enumerate(paper):
            self.wrong(with_row(paper, place, list(row)))
            self.wrong(with_row(paper, place, {size: number for size, number in enumerate(row)}))
            self.wrong(with_row(paper, place, "00000"))

    def test_things_of_other_kinds(self):
        paper = table_paper(THREE, 4)
        for thing in odd_things() + [0, 5, "", (), "[(0,)]", (0,), THREE, STORE, TWELVE]:
            self.wrong(thing)
            self.wrong(thing, (), 0)
            self.wrong([thing] * 4)
            self.wrong([thing], (), 4)
            for place in range(4):
                self.wrong(with_row(paper, place, thing))

    def test_a_paper_of_another_room_or_store(self):
        self.wrong(table_paper(THREE, 3))
        self.wrong(table_paper(THREE, 5))
        self.wrong(table_paper(THREE[:2], 4))
        self.wrong(table_paper(((3, 5, 2), (2, 2, None), (4, 4, 0)), 4))
        self.wrong(table_paper(((3, 5, 2), (2, 3, 1), (4, 4, 0)), 4))
        self.wrong(table_paper(THREE, 4), ((3, 5, 2), (2, 3, None), (4, 7, 1)))


class CutFor(Told):
    def goes(self, store, room, u):
        with self.subTest(store=store, room=room, u=u):
            told = cut_for(store, room, u)
            self.assertIs(is_cut_of(told, store, room, u), True)
            self.assertIs(is_cut(told, store, room, u), True)

    def test_told_just_where_no_load_has_so_much(self):
        for store in itertools.chain(some_stores(), [THREE, LIKE, EVEN]):
            for room in ROOMS:
                best = best_of(store, room)
                for u in [best + 1, best + 2, best + 9, best + BIG]:
                    self.goes(store, room, u)
                for u in [best, best - 1, 1, 0, -1, -BIG]:
                    if u <= best:
                        self.same(cut_for(store, room, u), None)

    def test_greater_rooms(self):
        stores = [
            ((7, 9, 2), (5, 6, 3), (11, 14, 4), (2, 1, 1)), ((14, 9, None), (9, 6, 5), (30, 20, None), (4, 2, 3)),
            ((5, 9, 1), (4, 7, 1), (3, 5, None), (2, 3, 1), (1, 1, 2)), EVEN, GREAT, STORE, TWELVE,
            tuple((place + 5, place + 8, place % 3) for place in range(12)), ((200, 7, 1), (199, 6, 1), (1, 1, 1)),
        ]
        for store in stores:
            for room in [0, 17, 60, 101, 199, 200]:
                best = best_worth(store, room)
                self.goes(store, room, best + 1)
                self.goes(store, room, best + 3)
                self.same(cut_for(store, room, best), None)

    def test_edges(self):
        for room in [0, 1, 200]:
            self.goes((), room, 1)
            self.goes(((1, 0, None),), room, 1)
            self.goes(((1, 9, 0),), room, 1)
            self.same(cut_for((), room, 0), None)
            self.same(cut_for((), room, -1), None)
        # Less room than every weight: no load is worth anything, though shares are.
        self.goes(((7, 1, 3), (9, 100, None)), 6, 1)
        self.goes(((BIG, BIG, None),), 200, 1)

    def test_however_many_ways_there_are_it_is_told(self):
        # Written out it would be some hundred million cuts, so it is not gone along here.
        best = best_worth(EVEN_TWELVE, 199)
        self.same(cut_for(EVEN_TWELVE, 199, best), None)
        told = cut_for(EVEN_TWELVE, 199, best + 1)
        self.same(told[0], "kind")
        few = EVEN_TWELVE[:3]
        self.goes(few, 199, best_worth(few, 199) + 1)
        # A told cut may be handed in again, whatever its size.
        some = tuple((2 * place + 2, 2 * place + 2, None) for place in range(4))
        told = cut_for(some, 199, 199)
        self.assertIs(is_cut(told, some, 199, 199), True)
        self.assertIs(is_cut(told, some, 199, 198), False)

    def test_where_several_ways_lead_to_the_same_kinds_and_room(self):
        # They come there with unlike worths still to be shown: a cut for the greater one is none for the lesser.
        several = [
            (3, ((2, 28, 1), (2, 24, 2), (3, 35, None), (5, 60, 1))),
            (6, ((4, 489, 1), (4, 468, 1), (6, 690, 1), (8, 851, 2))),
            (15, ((4, 49, 3), (12, 122, 1), (2, 30, 1), (2, 25, 3))),
            (20, ((8, 80, None), (2, 28, 3), (2, 29, 1), (5, 51, 3))),
            (25, ((6, 69, None), (4, 49, 2), (8, 81, 3), (4, 50, 2))),
            (9, ((2, 22, 2), (4, 46, None), (5, 51, 1), (2, 25, 1), (4, 47, None))),
            (11, ((6, 70, 1), (12, 123, 2), (4, 47, 2), (2, 28, 2), (10, 103, 2))),
        ]
        for room, store in several:
            self.goes(store, room, best_of(store, room) + 1)
        for room in range(7, 40, 4):
            self.goes(EVEN_TWELVE[:4], room, best_worth(EVEN_TWELVE[:4], room) + 1)


class IsCut(Told):
    def right(self, thing, store, room, u):
        with self.subTest(thing=thing, store=store, room=room, u=u):
            self.assertIs(is_cut_of(thing, store, room, u), True)
            self.assertIs(is_cut(thing, store, room, u), True)

    def wrong(self, thing, store, room, u):
        with self.subTest(thing=thing, store=store, room=room, u=u):
            kept = copy.deepcopy(thing)
            self.assertIs(is_cut(thing, store, room, u), False)
            self.same(thing, kept)

    def test_by_a_price(self):
        store = ((4, 8, 2), (6, 9, 1), (10, 10, 3))
        # Its bound in the room 12 is 22.
        self.right(("price", (3, 2)), store, 12, 23)
        self.wrong(("price", (3, 2)), store, 12, 22)
        self.wrong(("price", (3, 2)), store, 12, 21)
        # A bound between two whole numbers: 68 by 3.
        self.right(("price", (5, 3)), store, 12, 23)
        self.wrong(("price", (5, 3)), store, 12, 22)
        self.right(("price", (0, 1)), store, 12, 56)
        self.wrong(("price", (0, 1)), store, 12, 55)
        self.right(("price", (0, 1)), (), 5, 1)
        self.wrong(("price", (0, 1)), (), 5, 0)
        self.wrong(("price", (1, 1)), (), 5, 5)
        self.right(("price", (1, 1)), (), 5, 6)
        self.right(("price", (BIG, 1)), (), 0, 1)
        self.wrong(("price", (BIG, 1)), (), 0, 0)
        self.wrong(("price", (BIG, 1)), (), 0, -BIG)

    def test_each_price_against_its_bound(self):
        for store in [THREE, LIKE, EVEN, STORE, TWELVE, ()]:
            for price in [(0, 1), (1, 1), (3, 2), (5, 3), (2, 1), (7, 1)]:
                for room in [0, 3, 8]:
                    told = bound(store, room, price)
                    for u in range(-1, 40):
                        less = told is not None and told[0] < u * told[1]
                        self.assertIs(is_cut(("price", price), store, room, u), less)

    def test_a_price_that_has_no_bound(self):
        self.wrong(("price", (0, 1)), ((1, 1, None),), 5, BIG)
        self.wrong(("price", (1, 2)), ((1, 1, None),), 5, BIG)
        self.right(("price", (1, 1)), ((1, 1, None),), 5, 6)
        self.right(("price", (0, 1)), ((1, 0, None),), 5, 1)

    def test_no_prices(self):
        for thing in no_prices():
            self.wrong(("price", thing), (), 5, BIG)
            self.wrong(("price", thing), THREE, 5, BIG)
            self.wrong(("kind", 1, (("price", thing),) * 3), THREE, 5, BIG)

    def test_by_a_kind(self):
        # Two of weight 3 and worth 5: the room 5 holds one.
        store = ((3, 5, 2),)
        self.right(("kind", 0, (("price", (0, 1)), ("price", (0, 1)))), store, 5, 6)
        self.wrong(("kind", 0, (("price", (0, 1)), ("price", (0, 1)))), store, 5, 5)
        self.wrong(("kind", 0, (("price", (0, 1)),)), store, 5, 6)
        self.wrong(("kind", 0, (("price", (0, 1)),) * 3), store, 5, 6)
        self.right(("kind", 0, (("price", (0, 1)),) * 3), store, 200, 11)
        self.wrong(("kind", 0, (("price", (0, 1)),) * 4), store, 200, 11)
        self.right(("kind", 0, (("price", (0, 1)),) * 67), ((3, 5, None),), 200, 331)
        self.wrong(("kind", 0, (("price", (0, 1)),) * 67), ((3, 5, None),), 200, 330)
        # One that does not fit is taken 0 times.
        self.right(("kind", 0, (("price", (0, 1)),)), store, 2, 1)
        self.wrong(("kind", 0, ()), store, 2, 1)
        # One of worth 0 may be cut by too.
        self.right(("kind", 0, (("price", (0, 1)),) * 3), ((1, 0, 2),), 9, 1)

    def test_the_room_and_the_worth_grow_less_with_what_is_taken(self):
        store = ((3, 5, None), (2, 3, None))
        # 5 for 3 is the dearer one: without it a weight of 1 is worth 3 by 2 at most.
        cuts = (("price", (3, 2)), ("price", (3, 2)), ("kind", 1, (("price", (0, 1)),)))
        self.right(("kind", 0, cuts), store, 7, 12)
        self.wrong(("kind", 0, cuts), store, 7, 11)
        self.wrong(("kind", 0, cuts[:2] + (("price", (3, 2)),)), store, 7, 11)
        self.wrong(("kind", 0, cuts), store, 8, 12)
        self.wrong(("kind", 0, cuts), store, 9, 12)

    def test_within_a_cut_the_kind_is_not_there(self):
        store = ((3, 5, 2), (2, 3, 1))
        nothing = ("price", (0, 1))
        self.right(("kind", 0, (("kind", 1, (nothing, nothing)),) * 2), store, 5, 9)
        self.right(("kind", 1, (("kind", 0, (nothing, nothing)),) * 2), store, 5, 9)
        self.wrong(("kind", 0, (("kind", 0, (nothing,)),) * 2), store, 5, 9)
        self.wrong(("kind", 0, (("kind", 0, (nothing, nothing)),) * 2), store, 5, 9)
        self.wrong(("kind", 0, (nothing,)), ((3, 5, 0),), 5, 9)
        self.wrong(("kind", 1, (nothing,)), ((3, 5, 1), (1, 1, 0)), 5, 9)

    def test_places(self):
        store = ((3, 5, 2), (3, 5, 2), (1, 0, 0))
        cuts = (("price", (5, 3)), ("price", (5, 3)))
        for place in [0, 1]:
            self.right(("kind", place, cuts), store, 5, 9)
        for place in [2, 3, 12, BIG, -1, -2, -3, True, False, None, "0", "", (0,), [0], {}, {0: 1}, (), ("kind", 0)]:
            self.wrong(("kind", place, cuts), store, 5, 9)
            self.wrong(("kind", place, cuts[:1]), store, 5, 9)
            self.wrong(("kind", 0, (("kind", place, cuts), cuts[1])), store, 5, 9)
        for thing in odd_things():
            self.wrong(("kind", thing, cuts), store, 5, 9)

    def test_cuts_left_out_put_in_or_exchanged(self):
        store = ((3, 5, None), (2, 3, None))
        cuts = (("price", (3, 2)), ("price", (3, 2)), ("kind", 1, (("price", (0, 1)),)))
        for place in range(3):
            self.wrong(("kind", 0, cuts[:place] + cuts[place + 1:]), store, 7, 12)
            self.wrong(("kind", 0, cuts[:place] + (cuts[place],) + cuts[place:]), store, 7, 12)
            for thing in odd_things() + [0, "", (), cuts, ("price",), ("kind", 0), ("kind",), ("price", (3, 2), ())]:
                self.wrong(("kind", 0, cuts[:place] + (thing,) + cuts[place + 1:]), store, 7, 12)
        self.wrong(("kind", 0, (cuts[2], cuts[1], cuts[0])), store, 7, 12)
        self.wrong(("kind", 0, (cuts[0], cuts[2], cuts[1])), store, 7, 12)
        for thing in odd_things() + [0, "", ()]:
            self.wrong(("kind", 0, thing), store, 7, 12)

    def test_lists_in_the_place_of_tuples(self):
        store = ((3, 5, None), (2, 3, None))
        cuts = (("price", (3, 2)), ("price", (3, 2)), ("kind", 1, (("price", (0, 1)),)))
        self.wrong(["kind", 0, cuts], store, 7, 12)
        self.wrong(("kind", 0, list(cuts)), store, 7, 12)
        self.wrong(("kind", 0, (["price", (3, 2)],) + cuts[1:]), store, 7, 12)
        self.wrong(("kind", 0, (("price", [3, 2]),) + cuts[1:]), store, 7, 12)
        self.wrong(("kind", 0, cuts[:2] + (("kind", 1, [("price", (0, 1))]),)), store, 7, 12)
        self.wrong(("kind", 0, cuts[:2] + (["kind", 1, (("price", (0, 1)),)],)), store, 7, 12)
        self.wrong(("kind", 0, {0: cuts[0], 1: cuts[1], 2: cuts[2]}), store, 7, 12)
        self.wrong(["price", (BIG, 1)], store, 7, BIG * BIG)

    def test_other_words(self):
        cuts = (("price", (5, 3)), ("price", (5, 3)))
        words = ["", "Kind", "kind ", "kinds", "PRICE", "prices", " price", "cut"] + odd_things() + [0, 5, ()]
        for word in words:
            self.wrong((word, 0, cuts), ((3, 5, 2),), 5, 9)
            self.wrong((word, (5, 3)), ((3, 5, 2),), 5, 9)
        self.wrong(("price", 0, cuts), ((3, 5, 2),), 5, 9)
        self.wrong(("kind", (5, 3)), ((3, 5, 2),), 5, 9)
        self.wrong(("kind", 0), ((3, 5, 2),), 5, 9)
        self.wrong(("kind", 0, cuts, ()), ((3, 5, 2),), 5, 9)
        self.wrong(("price", (5, 3), ()), ((3, 5, 2),), 5, 9)
        self.wrong(("price", 5, 3), ((3, 5, 2),), 5, 9)
        self.wrong((0, "kind", cuts), ((3, 5, 2),), 5, 9)

    def test_things_of_other_kinds(self):
        for thing in odd_things() + [0, 5, "", (), "price", "kind", ("price",), ("kind",), THREE, STORE, TWELVE]:
            for store in [(), THREE]:
                self.wrong(thing, store, 5, BIG)
                self.wrong((thing,), store, 5, BIG)

    def test_none_for_a_worth_no_greater_than_0(self):
        nothing = ("price", (0, 1))
        for u in [0, -1, -BIG]:
            for store in [(), ((3, 5, 1),), ((1, 0, None),)]:
                self.wrong(nothing, store, 0, u)
                self.wrong(("kind", 0, (nothing,)), store, 0, u)

    def test_one_for_each_greater_worth_too(self):
        for store in [THREE, LIKE, EVEN]:
            for room in range(12):
                best = best_worth(store, room)
                told = cut_for(store, room, best + 1)
                for u in range(best - 2, best + 6):
                    self.assertIs(is_cut(told, store, room, u), u > best)
                self.assertIs(is_cut(told, store, room, best + BIG), True)


class Refusals(Told):
    def test_no_store_ahead_of_all(self):
        for store in no_stores():
            for room in [5, 201, -1, None]:
                for u in [5, None]:
                    for asked, given in calls_with(store, room, u):
                        self.refused(NoStore, asked, *given)

    def test_no_number_ahead_of_too_many(self):
        for store in [THREE, (), TWELVE]:
            for room in no_counts() + [-201]:
                for asked, given in calls_with(store, room, 5):
                    self.refused(NoNumber, asked, *given)
            for u in no_wholes():
                for room in [5, 0, 200, 201, BIG, -1, None]:
                    for asked, given in calls_with(store, room, u)[2:]:
                        self.refused(NoNumber, asked, *given)

    def test_two_hundred_and_one(self):
        for store in [THREE, (), TWELVE, GREAT]:
            for u in [-BIG, -1, 0, 5, BIG * 10 ** 9]:
                for asked, given in calls_with(store, 200, u):
                    asked(*given)
                for room in [201, 202, 1000, BIG, 10 ** 40]:
                    for asked, given in calls_with(store, room, u):
                        self.refused(TooMany, asked, *given)

    def test_whatever_the_thing_it_is_refused_likewise(self):
        for thing in odd_things() + [(), [(0,)], ("price", (0, 1))]:
            self.refused(NoStore, table_bound, thing, None, 5)
            self.refused(NoNumber, table_bound, thing, THREE, -1)
            self.refused(TooMany, table_bound, thing, THREE, 201)
            self.refused(NoStore, is_cut, thing, None, 5, 5)
            self.refused(NoNumber, is_cut, thing, THREE, -1, 5)
            self.refused(NoNumber, is_cut, thing, THREE, 5, None)
            self.refused(TooMany, is_cut, thing, THREE, 201, 5)


class NothingIsChanged(Told):
    def test_what_was_handed_in_is_the_same_and_so_is_the_answer(self):
        for store in [(), THREE, TWELVE, STORE]:
            for room in [0, 4, 200, 201]:
                for u in [-1, 0, 6, BIG]:
                    for asked, given in calls_with(store, room, u):
                        self.nothing_changes(asked, given)
        for thing in no_stores() + no_counts():
            for asked, given in calls_with(thing, 4, 6) + calls_with(THREE, thing, 6) + calls_with(THREE, 4, thing):
                self.nothing_changes(asked, given)
            self.nothing_changes(table_bound, [thing, THREE, 4])
            self.nothing_changes(is_cut, [thing, THREE, 4, 6])
        self.nothing_changes(table_bound, [table_paper(THREE, 4), THREE, 4])
        self.nothing_changes(is_cut, [cut_for(THREE, 4, 7), THREE, 4, 7])

    def test_a_told_list_is_the_askers_own(self):
        for store in [(), THREE, TWELVE]:
            told = table_paper(store, 9)
            kept = list(told)
            told[0] = "changed"
            told.append(77)
            self.same(table_paper(store, 9), kept)
            told.clear()
            self.same(table_paper(store, 9), kept)
            self.same(table_bound(kept, store, 9), best_worth(store, 9))
            self.assertIsNot(table_paper(store, 9), table_paper(store, 9))

    def test_a_paper_that_is_changed_later_changes_nothing_told(self):
        paper = table_paper(THREE, 4)
        self.same(table_bound(paper, THREE, 4), 6)
        paper[3] = (9, 9, 9, 9, 9)
        self.same(table_bound(paper, THREE, 4), 9)
        self.same(table_bound(table_paper(THREE, 4), THREE, 4), 6)


class WhatFollows(Told):
    def test_where_no_load_is_worth_so_much_a_paper_shows_it(self):
        for store in some_stores():
            for room, best in enumerate(best_worths(store, 9)):
                self.same(table_bound(table_paper(store, room), store, room), best)
                self.same(cut_for(store, room, best), None)
                self.assertIs(is_cut(cut_for(store, room, best + 1), store, room, best + 1), True)

    def test_the_shares_alone_where_they_tell_enough(self):
        for store in some_stores():
            for room in ROOMS:
                top, bottom = share_worth(store, room)
                self.assertIs(is_cut(("price", some_price(store, room)), store, room, top // bottom + 1), True)

    def test_with_more_room_or_one_kind_more_the_bound_is_no_less(self):
        for store in [THREE, LIKE, EVEN, STORE]:
            told = [table_bound(table_paper(store, room), store, room) for room in range(15)]
            self.assertEqual(told, sorted(told))
            for kind in [(1, 0, None), (1, 2, 1), (5, 9, None), (3, 1, 0)]:
                longer = store + (kind,)
                for room in range(15):
                    self.assertGreaterEqual(table_bound(table_paper(longer, room), longer, room), told[room])


if __name__ == "__main__":
    unittest.main()
