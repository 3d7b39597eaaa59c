"""Single stores: the loads of both halves, where they meet, and the stair that shows that none has so much worth."""

from sackloads.errors import NotSingle
from sackloads.stores import MOST, WEIGHT, WORTH, is_whole, need_count, need_store, need_whole, taken_together

LOAD = 2


def need_single(store):
    if not all([kind[MOST] in (0, 1) for kind in store]):
        raise NotSingle("some kind is there more often than once")


def first_half(store):
    return store[:len(store) // 2]


def second_half(store):
    return store[len(store) // 2:]


def all_loads(kinds):
    loads = [()]
    for kind in kinds:
        longer = []
        for load in loads:
            longer.extend([load + (times,) for times in range(kind[MOST] + 1)])
        loads = longer
    return loads


def all_weighed(kinds):
    # They rise as their loads, being tuples, are ordered: met_load takes the first.
    return [
        (taken_together(kinds, load, WEIGHT), taken_together(kinds, load, WORTH), load)
        for load in all_loads(kinds)
    ]


def beating_order(weighed):
    return (weighed[WEIGHT], -weighed[WORTH], weighed[LOAD])


def not_beaten(kinds):
    # In this order whatever beats a load stands ahead of it, and what stands ahead beats it unless it is worth less.
    kept = []
    for weighed in sorted(all_weighed(kinds), key=beating_order):
        if kept == [] or weighed[WORTH] > kept[-1][WORTH]:
            kept.append(weighed)
    return kept


def half_loads(store):
    need_store(store)
    need_single(store)
    return (not_beaten(first_half(store)), not_beaten(second_half(store)))


def best_beside(one, seconds, room):
    left = room - one[WEIGHT]
    return one[WORTH] + max([other[WORTH] for other in seconds if other[WEIGHT] <= left])


def met_worth(store, room):
    need_store(store)
    need_count(room)
    both = half_loads(store)
    return max([best_beside(one, both[1], room) for one in both[0] if one[WEIGHT] <= room])


def met_load(store, room):
    best = met_worth(store, room)
    # A beaten load of a half may yet be part of the first of the best loads, so all of them are tried.
    seconds = all_weighed(second_half(store))
    fitting = [one for one in all_weighed(first_half(store)) if one[WEIGHT] <= room]
    front = [one for one in fitting if best_beside(one, seconds, room) == best][0]
    beside = [other for other in seconds if front[WEIGHT] + other[WEIGHT] <= room]
    back = [other for other in beside if front[WORTH] + other[WORTH] == best][0]
    return front[LOAD] + back[LOAD]


def stair_for(store, room, worth):
    need_store(store)
    need_count(room)
    need_whole(worth)
    both = half_loads(store)
    steps = []
    i = 0
    j = len(both[1]) - 1
    while i < len(both[0]) and j >= 0:
        steps.append((i, j))
        if both[0][i][WEIGHT] + both[1][j][WEIGHT] > room:
            j = j - 1
        elif both[0][i][WORTH] + both[1][j][WORTH] >= worth:
            return None
        else:
            i = i + 1
    return tuple(steps)


def is_step(thing):
    # To Python True equals 1, so that == alone would let it through.
    return isinstance(thing, tuple) and len(thing) == 2 and is_whole(thing[0]) and is_whole(thing[1])


def is_stair(thing, store, room, worth):
    stair = stair_for(store, room, worth)
    if stair is None or not isinstance(thing, tuple):
        return False
    return all([is_step(part) for part in thing]) and thing == stair
