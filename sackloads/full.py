"""Rooms that are just full: which loads fill them, and which rooms kinds without end never fill."""

from sackloads.endless import heaviest, need_light_endless
from sackloads.shares import greatest_divisor
from sackloads.stores import WEIGHT, most_within
from sackloads.tables import many_with, need_asked, room_left, worth_with


def filling_counts(store, room):
    # As in loads_many, but what is left over must be no room at all.
    row = [1] + [0] * room
    for kind in store:
        row = [many_with(kind, row, size) for size in range(room + 1)]
    return row


def filled(store, room):
    need_asked(store, room)
    return filling_counts(store, room)[room] > 0


def all_filled(store, room):
    need_asked(store, room)
    return [size for size, many in enumerate(filling_counts(store, room)) if many > 0]


def fills_many(store, room):
    need_asked(store, room)
    return filling_counts(store, room)[room]


def filling_times(kind, row, room):
    last = most_within(kind, room)
    return [times for times in range(last + 1) if row[room_left(kind, times, room)] is not None]


def filling_worths(kind, row, room):
    return [worth_with(kind, times, row, room) for times in filling_times(kind, row, room)]


def most_rows(store, room):
    # As in best_rows: the greatest worth that fills a room, None where no load does.
    rows = [[0] + [None] * room]
    for kind in reversed(store):
        rows.insert(0, [max(filling_worths(kind, rows[0], size), default=None) for size in range(room + 1)])
    return rows


def most_filling(store, room):
    need_asked(store, room)
    return most_rows(store, room)[0][room]


def least_filling(store, room):
    need_asked(store, room)
    row = [0] + [None] * room
    for kind in store:
        row = [min(filling_worths(kind, row, size), default=None) for size in range(room + 1)]
    return row[room]


def fewest_of_most(kind, most, row, room):
    fitting = filling_times(kind, row, room)
    return [times for times in fitting if worth_with(kind, times, row, room) == most][0]


def fill(store, room):
    need_asked(store, room)
    rows = most_rows(store, room)
    if rows[0][room] is None:
        return None
    load = []
    left = room
    for place, kind in enumerate(store):
        times = fewest_of_most(kind, rows[place][left], rows[place + 1], left)
        load.append(times)
        left = room_left(kind, times, left)
    return tuple(load)


def weights_divisor(store):
    divisor = 0
    for kind in store:
        divisor = greatest_divisor(divisor, kind[WEIGHT])
    return divisor


def never_rooms(store):
    # Where no number above 1 divides all weights, no greater room than these is never filled.
    lightest = min([kind[WEIGHT] for kind in store])
    full = [True]
    for room in range(1, lightest * heaviest(store)):
        full.append(any([kind[WEIGHT] <= room and full[room - kind[WEIGHT]] for kind in store]))
    return [room for room, is_full in enumerate(full) if not is_full]


def never_filled(store):
    need_light_endless(store)
    divisor = weights_divisor(store)
    if divisor > 1:
        return ("ever", divisor)
    rooms = never_rooms(store)
    return ("none",) if rooms == [] else ("last", rooms[-1])


def never_many(store):
    need_light_endless(store)
    return None if weights_divisor(store) > 1 else len(never_rooms(store))
