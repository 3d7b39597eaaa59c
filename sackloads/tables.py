"""The best loads by tables: a number for each room, or for each worth that is asked for."""

from sackloads.errors import TooMany
from sackloads.stores import MOST, WEIGHT, WORTH, most_within, need_count, need_store

ASKED_AT_MOST = 200


def need_few(number):
    if number > ASKED_AT_MOST:
        raise TooMany("a room or a worth greater than 200 is asked for")


def need_asked(store, number):
    need_store(store)
    need_count(number)
    need_few(number)


def room_left(kind, times, room):
    return room - times * kind[WEIGHT]


def worth_with(kind, times, row, room):
    return times * kind[WORTH] + row[room_left(kind, times, room)]


def best_with(kind, row, room):
    return max([worth_with(kind, times, row, room) for times in range(most_within(kind, room) + 1)])


def best_rows(store, room):
    # The row at a place is that of the kinds from there on: so a load can be chosen from its front.
    rows = [[0] * (room + 1)]
    for kind in reversed(store):
        rows.insert(0, [best_with(kind, rows[0], size) for size in range(room + 1)])
    return rows


def best_worths(store, room):
    need_asked(store, room)
    return best_rows(store, room)[0]


def best_worth(store, room):
    return best_worths(store, room)[room]


def fewest_of_best(kind, best, row, room):
    # Of several best loads the one with fewer in front is the first as tuples are ordered.
    times = 0
    while worth_with(kind, times, row, room) < best:
        times = times + 1
    return times


def best_load(store, room):
    need_asked(store, room)
    rows = best_rows(store, room)
    load = []
    left = room
    for place, kind in enumerate(store):
        times = fewest_of_best(kind, rows[place][left], rows[place + 1], left)
        load.append(times)
        left = room_left(kind, times, left)
    return tuple(load)


def many_with(kind, row, room):
    return sum([row[room_left(kind, times, room)] for times in range(most_within(kind, room) + 1)])


def loads_many(store, room):
    need_asked(store, room)
    row = [1] * (room + 1)
    for kind in store:
        row = [many_with(kind, row, size) for size in range(room + 1)]
    return row[room]


def pair_with(kind, times, row, room):
    pair = row[room_left(kind, times, room)]
    return (times * kind[WORTH] + pair[0], pair[1])


def best_pair(kind, row, room):
    pairs = [pair_with(kind, times, row, room) for times in range(most_within(kind, room) + 1)]
    best = max([pair[0] for pair in pairs])
    return (best, sum([pair[1] for pair in pairs if pair[0] == best]))


def best_many(store, room):
    need_asked(store, room)
    # Each pair is the best worth for a room and how many loads have it.
    row = [(0, 1)] * (room + 1)
    for kind in store:
        row = [best_pair(kind, row, size) for size in range(room + 1)]
    return row[room][1]


def enough_times(kind, goal):
    # Beyond these a load only grows heavier, so none of the lightest ones takes more.
    if kind[WORTH] == 0:
        return 0
    enough = (goal + kind[WORTH] - 1) // kind[WORTH]
    return enough if kind[MOST] is None else min(enough, kind[MOST])


def goal_left(kind, times, goal):
    return max(0, goal - times * kind[WORTH])


def weight_with(kind, times, row, goal):
    rest = row[goal_left(kind, times, goal)]
    return None if rest is None else times * kind[WEIGHT] + rest


def least_with(kind, row, goal):
    tried = [weight_with(kind, times, row, goal) for times in range(enough_times(kind, goal) + 1)]
    return min([heavy for heavy in tried if heavy is not None], default=None)


def least_rows(store, worth):
    # As in best_rows, by worths: the least weight that has so much, None where no load has.
    rows = [[0] + [None] * worth]
    for kind in reversed(store):
        rows.insert(0, [least_with(kind, rows[0], goal) for goal in range(worth + 1)])
    return rows


def least_weight(store, worth):
    need_asked(store, worth)
    return least_rows(store, worth)[0][worth]


def fewest_of_least(kind, least, row, goal):
    times = 0
    while weight_with(kind, times, row, goal) != least:
        times = times + 1
    return times


def least_load(store, worth):
    need_asked(store, worth)
    rows = least_rows(store, worth)
    if rows[0][worth] is None:
        return None
    load = []
    goal = worth
    for place, kind in enumerate(store):
        times = fewest_of_least(kind, rows[place][goal], rows[place + 1], goal)
        load.append(times)
        goal = goal_left(kind, times, goal)
    return tuple(load)
