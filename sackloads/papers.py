"""Papers that show that no load that fits is worth so much: table papers, and cuts."""

from sackloads.shares import BOTTOM, TOP, bound_of, dearest_first, is_price, some_price
from sackloads.stores import WEIGHT, WORTH, is_count, is_place, is_there, most_within, need_count, need_store
from sackloads.stores import need_whole, with_kind, with_most
from sackloads.tables import best_rows, best_with, best_worth, need_asked, need_few


def is_row(thing, room):
    if not isinstance(thing, tuple) or len(thing) != room + 1:
        return False
    return all([is_count(number) for number in thing])


def is_rows(thing, store, room):
    if not isinstance(thing, list) or len(thing) != len(store) + 1:
        return False
    return all([is_row(row, room) for row in thing])


def next_row(kind, row):
    return tuple([best_with(kind, row, size) for size in range(len(row))])


def is_no_less(row, least):
    return all([number >= needed for number, needed in zip(row, least)])


def table_bound(thing, store, room):
    need_asked(store, room)
    if not is_rows(thing, store, room):
        return None
    for place, kind in enumerate(store):
        if not is_no_less(thing[place + 1], next_row(kind, thing[place])):
            return None
    return thing[-1][-1]


def table_paper(store, room):
    need_asked(store, room)
    rows = [(0,) * (room + 1)]
    for kind in store:
        rows.append(next_row(kind, rows[-1]))
    return rows


def need_cut_asked(store, room, u):
    need_store(store)
    need_count(room)
    need_whole(u)
    need_few(room)


def none_of(store, place):
    return with_kind(store, place, with_most(store[place], 0))


def is_less(fraction, u):
    return fraction[TOP] < u * fraction[BOTTOM]


def is_price_cut(thing, store, room, u):
    if len(thing) != 2 or thing[0] != "price" or not is_price(thing[1]):
        return False
    most = bound_of(store, room, thing[1])
    return most is not None and is_less(most, u)


def is_kind_cut(thing, store, room, u):
    if len(thing) != 3 or thing[0] != "kind" or not is_place(thing[1], store) or not isinstance(thing[2], tuple):
        return False
    kind = store[thing[1]]
    if not is_there(kind) or len(thing[2]) != most_within(kind, room) + 1:
        return False
    left = none_of(store, thing[1])
    for times, part in enumerate(thing[2]):
        if not cuts_off(part, left, room - times * kind[WEIGHT], u - times * kind[WORTH]):
            return False
    return True


def cuts_off(thing, store, room, u):
    # It goes no deeper than there are kinds: within a cut by a kind none of it is there.
    if not isinstance(thing, tuple):
        return False
    return is_price_cut(thing, store, room, u) or is_kind_cut(thing, store, room, u)


def is_cut(thing, store, room, u):
    need_cut_asked(store, room, u)
    return cuts_off(thing, store, room, u)


class CutMaker:
    # The dearest kind is cut by first: where few of it are taken, the others' shares are soon too little.
    def __init__(self, store, room):
        self.order = [place for place in dearest_first(store) if is_there(store[place])]
        self.lefts = [store]
        for place in self.order:
            self.lefts.append(none_of(self.lefts[-1], place))
        self.best = best_rows([store[place] for place in self.order], room)
        self.priced = {}
        self.made = {}

    def price_with_bound(self, at, room):
        if (at, room) not in self.priced:
            price = some_price(self.lefts[at], room)
            self.priced[(at, room)] = (price, bound_of(self.lefts[at], room, price))
        return self.priced[(at, room)]

    def cut(self, at, room, u):
        priced = self.price_with_bound(at, room)
        if is_less(priced[1], u):
            return ("price", priced[0])
        made = self.made.get((at, room))
        if made is None or made[0] > u:
            # A cut for a worth is one for each greater worth too. So the second one made here is for the least worth
            # that has any, and serves all the other ways that lead here, however many they are.
            goal = u if made is None else self.best[at][room] + 1
            made = (goal, self.cut_by_kind(at, room, goal))
            self.made[(at, room)] = made
        return made[1]

    def cut_by_kind(self, at, room, u):
        kind = self.lefts[at][self.order[at]]
        cuts = []
        for times in range(most_within(kind, room) + 1):
            cuts.append(self.cut(at + 1, room - times * kind[WEIGHT], u - times * kind[WORTH]))
        return ("kind", self.order[at], tuple(cuts))


def cut_for(store, room, u):
    need_cut_asked(store, room, u)
    if best_worth(store, room) >= u:
        return None
    return CutMaker(store, room).cut(0, room, u)
