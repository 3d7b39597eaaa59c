"""Stores changed: a kind more, one less, grown, without what is beaten, like kinds joined; and places never taken."""

from sackloads.errors import NoKind, NoNumber, TooMany
from sackloads.shares import whole_bound
from sackloads.stores import KINDS_AT_MOST, MOST, WEIGHT, WORTH, is_count, is_kind, is_place, is_there, most_left
from sackloads.stores import need_count, need_store, need_whole, with_kind, with_most


def put_to(store, kind):
    need_store(store)
    if not is_kind(kind):
        raise NoKind("this is no kind")
    if len(store) == KINDS_AT_MOST:
        raise TooMany("twelve kinds are there")
    return store + (kind,)


def without(store, place):
    need_store(store)
    if not is_place(place, store):
        raise NoNumber("this is no place of the store")
    return store[:place] + store[place + 1:]


def need_growth(thing):
    if not is_count(thing) or thing == 0:
        raise NoNumber("this is no whole number from 1 on")


def grown(store, weight, worth):
    need_store(store)
    need_growth(weight)
    need_growth(worth)
    return tuple([(kind[WEIGHT] * weight, kind[WORTH] * worth, kind[MOST]) for kind in store])


def does_as_well(one, other):
    return one[MOST] is None and one[WEIGHT] <= other[WEIGHT] and one[WORTH] >= other[WORTH]


def beats(store, by, place):
    if by == place or not does_as_well(store[by], store[place]):
        return False
    return by < place or not does_as_well(store[place], store[by])


def beaten(store):
    need_store(store)
    pairs = []
    for place in range(len(store)):
        beating = [by for by in range(len(store)) if beats(store, by, place)]
        if beating != []:
            pairs.append((place, beating[0]))
    return pairs


def unbeaten(store):
    out = [pair[0] for pair in beaten(store)]
    return tuple([kind for place, kind in enumerate(store) if place not in out])


def is_like(one, other):
    return one[WEIGHT] == other[WEIGHT] and one[WORTH] == other[WORTH]


def most_together(kinds):
    if any([kind[MOST] is None for kind in kinds]):
        return None
    return sum([kind[MOST] for kind in kinds])


def like_joined(store):
    need_store(store)
    joined = []
    for kind in store:
        if not any([is_like(kind, other) for other in joined]):
            joined.append(with_most(kind, most_together([other for other in store if is_like(kind, other)])))
    return tuple(joined)


def may_be_in(store, place, room, u):
    kind = store[place]
    if not is_there(kind) or kind[WEIGHT] > room:
        return False
    left = with_kind(store, place, with_most(kind, most_left(kind, 1)))
    return kind[WORTH] + whole_bound(left, room - kind[WEIGHT]) >= u


def never_in(store, room, u):
    need_store(store)
    need_count(room)
    need_whole(u)
    return [place for place in range(len(store)) if not may_be_in(store, place, room, u)]
