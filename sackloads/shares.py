"""Shares of things: the best ones, and the price that shows that none are worth more."""

from sackloads.errors import NoNumber
from sackloads.stores import MOST, WEIGHT, WORTH, is_count, need_count, need_store

TOP = 0
BOTTOM = 1
NOTHING = (0, 1)


def greatest_divisor(one, other):
    while other > 0:
        rest = one % other
        one = other
        other = rest
    return one


def lowest_terms(top, bottom):
    divisor = greatest_divisor(top, bottom)
    return (top // divisor, bottom // divisor)


def added(one, other):
    return lowest_terms(one[TOP] * other[BOTTOM] + other[TOP] * one[BOTTOM], one[BOTTOM] * other[BOTTOM])


def is_price(thing):
    if not isinstance(thing, tuple) or len(thing) != 2:
        return False
    if not is_count(thing[TOP]) or not is_count(thing[BOTTOM]) or thing[BOTTOM] == 0:
        return False
    return greatest_divisor(thing[TOP], thing[BOTTOM]) == 1


def need_price(thing):
    if not is_price(thing):
        raise NoNumber("this is no price: no fraction from 0 on in lowest terms")


def weights_product(store):
    product = 1
    for kind in store:
        product = product * kind[WEIGHT]
    return product


def dearest_first(store):
    # Worth by weight, times the product of all weights, is a whole number; like ones stay in the order of their places.
    product = weights_product(store)
    places = [place for place, kind in enumerate(store) if kind[WORTH] > 0]
    return sorted(places, key=lambda place: -store[place][WORTH] * (product // store[place][WEIGHT]))


def all_go_in(kind, room):
    return kind[MOST] is not None and kind[MOST] * kind[WEIGHT] <= room


def best_share(kind, room):
    return (kind[MOST], 1) if all_go_in(kind, room) else lowest_terms(room, kind[WEIGHT])


def room_behind(kind, room):
    return room - kind[MOST] * kind[WEIGHT] if all_go_in(kind, room) else 0


def best_shares(store, room):
    need_store(store)
    need_count(room)
    shares = [NOTHING] * len(store)
    left = room
    for place in dearest_first(store):
        shares[place] = best_share(store[place], left)
        left = room_behind(store[place], left)
    return tuple(shares)


def share_worth(store, room):
    total = NOTHING
    for kind, share in zip(store, best_shares(store, room)):
        total = added(total, (share[TOP] * kind[WORTH], share[BOTTOM]))
    return total


def bound_of(store, room, price):
    top = room * price[TOP]
    for kind in store:
        more = kind[WORTH] * price[BOTTOM] - kind[WEIGHT] * price[TOP]
        if more > 0 and kind[MOST] is None:
            return None
        if more > 0:
            top = top + more * kind[MOST]
    return lowest_terms(top, price[BOTTOM])


def bound(store, room, price):
    need_store(store)
    need_count(room)
    need_price(price)
    return bound_of(store, room, price)


def some_price(store, room):
    need_store(store)
    need_count(room)
    left = room
    # The kind that no longer goes in as a whole sets the price: all dearer ones are taken, none of the cheaper ones.
    for place in dearest_first(store):
        if not all_go_in(store[place], left):
            return lowest_terms(store[place][WORTH], store[place][WEIGHT])
        left = room_behind(store[place], left)
    return NOTHING


def whole_bound(store, room):
    total = share_worth(store, room)
    return total[TOP] // total[BOTTOM]


def cut_load(store, room):
    return tuple([share[TOP] // share[BOTTOM] for share in best_shares(store, room)])
