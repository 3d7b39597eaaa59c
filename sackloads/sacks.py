"""Two sacks: single stores of at most eight kinds, each thing in the first sack, in the second, or left out."""

from sackloads.errors import NoLoad, TooMany
from sackloads.halves import need_single
from sackloads.shares import BOTTOM, TOP, added, bound_of, need_price
from sackloads.stores import WEIGHT, WORTH, is_count, is_there, need_count, need_store

KINDS_STOWED_AT_MOST = 8
STOW = 0
LEFT_ONE = 1
LEFT_OTHER = 2
STOW_WORTH = 3


def need_stowable(store):
    need_store(store)
    need_single(store)
    if len(store) > KINDS_STOWED_AT_MOST:
        raise TooMany("there are more than eight kinds")


def sacks_for(kind):
    return 2 if is_there(kind) else 0


def can_stow(kind, sack):
    return is_count(sack) and sack <= sacks_for(kind)


def is_stow(thing, store):
    need_stowable(store)
    if not isinstance(thing, tuple) or len(thing) != len(store):
        return False
    return all([can_stow(kind, sack) for kind, sack in zip(store, thing)])


def need_stow(store, thing):
    # The store is looked at within, so that its refusals go ahead of NoLoad.
    if not is_stow(thing, store):
        raise NoLoad("this is no stow of the store")


def weight_in(store, stow, sack):
    return sum([kind[WEIGHT] for kind, where in zip(store, stow) if where == sack])


def stow_weights(store, stow):
    need_stow(store, stow)
    return (weight_in(store, stow, 1), weight_in(store, stow, 2))


def stow_worth(store, stow):
    need_stow(store, stow)
    return sum([kind[WORTH] for kind, where in zip(store, stow) if where > 0])


def put_in(kind, front, sack):
    heavy_one = kind[WEIGHT] if sack == 1 else 0
    heavy_other = kind[WEIGHT] if sack == 2 else 0
    gain = kind[WORTH] if sack > 0 else 0
    stow = front[STOW] + (sack,)
    return (stow, front[LEFT_ONE] - heavy_one, front[LEFT_OTHER] - heavy_other, front[STOW_WORTH] + gain)


def stowed_further(kind, front):
    ways = [put_in(kind, front, sack) for sack in range(sacks_for(kind) + 1)]
    return [way for way in ways if way[LEFT_ONE] >= 0 and way[LEFT_OTHER] >= 0]


def all_that_fit(store, one, other):
    # They rise as their stows, being tuples, are ordered: two_stow takes the first.
    need_store(store)
    need_count(one)
    need_count(other)
    need_stowable(store)
    fronts = [((), one, other, 0)]
    for kind in store:
        longer = []
        for front in fronts:
            longer.extend(stowed_further(kind, front))
        fronts = longer
    return fronts


def two_worth(store, one, other):
    return max([way[STOW_WORTH] for way in all_that_fit(store, one, other)])


def two_stow(store, one, other):
    fitting = all_that_fit(store, one, other)
    best = max([way[STOW_WORTH] for way in fitting])
    return [way[STOW] for way in fitting if way[STOW_WORTH] == best][0]


def stows_many(store, one, other):
    return len(all_that_fit(store, one, other))


def lesser(price, more):
    return price if price[TOP] * more[BOTTOM] <= more[TOP] * price[BOTTOM] else more


def times_price(room, price):
    return (room * price[TOP], price[BOTTOM])


def two_bound(store, one, other, price, more):
    need_store(store)
    need_count(one)
    need_count(other)
    need_price(price)
    need_price(more)
    need_stowable(store)
    rooms = added(times_price(one, price), times_price(other, more))
    # What the kinds are worth above the lesser price is the bound of it for no room.
    return added(rooms, bound_of(store, 0, lesser(price, more)))
