"""Kinds, stores and loads: what they are, and what a load comes to."""

from sackloads.errors import NoLoad, NoNumber, NoStore

WEIGHT = 0
WORTH = 1
MOST = 2
KINDS_AT_MOST = 12


def is_whole(thing):
    # Python counts True and False among its ints; they are no whole numbers here.
    return isinstance(thing, int) and not isinstance(thing, bool)


def is_count(thing):
    return is_whole(thing) and thing >= 0


def is_kind(thing):
    if not isinstance(thing, tuple) or len(thing) != 3:
        return False
    if not is_count(thing[WEIGHT]) or thing[WEIGHT] == 0:
        return False
    return is_count(thing[WORTH]) and (thing[MOST] is None or is_count(thing[MOST]))


def is_store(thing):
    if not isinstance(thing, tuple) or len(thing) > KINDS_AT_MOST:
        return False
    return all([is_kind(part) for part in thing])


def need_store(thing):
    if not is_store(thing):
        raise NoStore("this is no store")


def need_count(thing):
    if not is_count(thing):
        raise NoNumber("this is no whole number from 0 on")


def need_whole(thing):
    if not is_whole(thing):
        raise NoNumber("this is no whole number")


def is_place(thing, store):
    return is_count(thing) and thing < len(store)


def can_take(kind, times):
    return is_count(times) and (kind[MOST] is None or times <= kind[MOST])


def is_load(thing, store):
    need_store(store)
    if not isinstance(thing, tuple) or len(thing) != len(store):
        return False
    return all([can_take(kind, times) for kind, times in zip(store, thing)])


def need_load(store, thing):
    # The store is looked at within, so that NoStore goes ahead of NoLoad.
    if not is_load(thing, store):
        raise NoLoad("this is no load of the store")


def taken_together(store, load, part):
    return sum([kind[part] * times for kind, times in zip(store, load)])


def weight(store, load):
    need_load(store, load)
    return taken_together(store, load, WEIGHT)


def worth(store, load):
    need_load(store, load)
    return taken_together(store, load, WORTH)


def fits(store, load, room):
    need_load(store, load)
    need_count(room)
    return taken_together(store, load, WEIGHT) <= room


def with_most(kind, most):
    return (kind[WEIGHT], kind[WORTH], most)


def with_kind(store, place, kind):
    return store[:place] + (kind,) + store[place + 1:]


def is_there(kind):
    return kind[MOST] is None or kind[MOST] > 0


def most_within(kind, room):
    alone = room // kind[WEIGHT]
    return alone if kind[MOST] is None else min(alone, kind[MOST])


def bounded(store, room):
    need_store(store)
    need_count(room)
    return tuple([with_most(kind, most_within(kind, room)) for kind in store])


def most_left(kind, times):
    return None if kind[MOST] is None else kind[MOST] - times


def leaves(store, load):
    need_load(store, load)
    return tuple([with_most(kind, most_left(kind, times)) for kind, times in zip(store, load)])


def whole_load(store):
    need_store(store)
    if any([kind[MOST] is None for kind in store]):
        return None
    return tuple([kind[MOST] for kind in store])
