"""Stores of kinds without end: the lead, where they begin to go in rounds, the best for rooms whatever their size."""

from sackloads.errors import NotEndless, TooMany
from sackloads.shares import weights_product
from sackloads.stores import MOST, WEIGHT, WORTH, need_count, need_store

WEIGHT_AT_MOST = 20


def need_endless(store):
    if store == () or not all([kind[MOST] is None for kind in store]):
        raise NotEndless("there is no kind, or one that is not without end")


def need_light(store):
    if heaviest(store) > WEIGHT_AT_MOST:
        raise TooMany("a weight is greater than 20")


def need_light_endless(store):
    need_store(store)
    need_endless(store)
    need_light(store)


def need_endless_asked(store, room):
    need_store(store)
    need_count(room)
    need_light_endless(store)


def heaviest(store):
    return max([kind[WEIGHT] for kind in store])


def lead_place(store):
    # Worth by weight, times the product of all weights, is a whole number; of wholly like ones min takes the first.
    product = weights_product(store)
    ranks = [(-kind[WORTH] * (product // kind[WEIGHT]), kind[WEIGHT]) for kind in store]
    return ranks.index(min(ranks))


def lead_kind(store):
    return store[lead_place(store)]


def lead(store):
    need_light_endless(store)
    return lead_place(store)


def surely_in_rounds(store):
    # Some best load has fewer things of other kinds than the lead's weight: from this room on the lead fits besides.
    weight = lead_kind(store)[WEIGHT]
    return weight + (weight - 1) * heaviest(store)


def small_worths(store):
    worths = []
    for room in range(surely_in_rounds(store)):
        fitting = [kind for kind in store if kind[WEIGHT] <= room]
        worths.append(max([worths[room - kind[WEIGHT]] + kind[WORTH] for kind in fitting], default=0))
    return worths


def out_of_rounds(first, worths):
    weight = first[WEIGHT]
    return [room for room in range(weight, len(worths)) if worths[room] != worths[room - weight] + first[WORTH]]


def worths_before(store):
    worths = small_worths(store)
    first = lead_kind(store)
    return worths[:max(out_of_rounds(first, worths), default=first[WEIGHT] - 1) + 1]


def start(store):
    need_light_endless(store)
    return len(worths_before(store))


def before(store):
    need_light_endless(store)
    return worths_before(store)


def rounds_taken(first, worths, room):
    if room < len(worths):
        return 0
    return (room - len(worths)) // first[WEIGHT] + 1


def endless_worth(store, room):
    need_endless_asked(store, room)
    worths = worths_before(store)
    first = lead_kind(store)
    rounds = rounds_taken(first, worths, room)
    return worths[room - rounds * first[WEIGHT]] + rounds * first[WORTH]


def is_last_in(kind, worths, room):
    return kind[WEIGHT] <= room and worths[room - kind[WEIGHT]] + kind[WORTH] == worths[room]


def endless_load(store, room):
    need_endless_asked(store, room)
    worths = worths_before(store)
    place = lead_place(store)
    load = [0] * len(store)
    load[place] = rounds_taken(store[place], worths, room)
    left = room - load[place] * store[place][WEIGHT]
    while worths[left] > 0:
        place = [at for at, kind in enumerate(store) if is_last_in(kind, worths, left)][0]
        load[place] = load[place] + 1
        left = left - store[place][WEIGHT]
    return tuple(load)
