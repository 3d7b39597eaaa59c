"""Rest papers: for each rest by the lead's weight, what the best loads lack at least to the lead's worth by weight."""

from sackloads.endless import lead_kind, need_endless_asked, need_light_endless
from sackloads.stores import WEIGHT, WORTH, is_count


def loss(kind, first):
    return kind[WEIGHT] * first[WORTH] - kind[WORTH] * first[WEIGHT]


def all_steps(store):
    # A pair is how far a step goes and by how much the number may rise in it; a room left empty is one step.
    first = lead_kind(store)
    return [(1, first[WORTH])] + [(kind[WEIGHT], loss(kind, first)) for kind in store]


def keeps_steps(numbers, steps):
    for place, number in enumerate(numbers):
        for far, more in steps:
            if numbers[(place + far) % len(numbers)] > number + more:
                return False
    return True


def is_rest_paper(thing, store):
    if not isinstance(thing, tuple) or len(thing) != lead_kind(store)[WEIGHT]:
        return False
    if not all([is_count(number) for number in thing]) or thing[0] != 0:
        return False
    return keeps_steps(thing, all_steps(store))


def rest_bound(thing, store, room):
    need_endless_asked(store, room)
    if not is_rest_paper(thing, store):
        return None
    first = lead_kind(store)
    return (room * first[WORTH] - thing[room % first[WEIGHT]]) // first[WEIGHT]


def lowered(numbers, steps):
    lower = list(numbers)
    for place, number in enumerate(numbers):
        for far, more in steps:
            to = (place + far) % len(numbers)
            lower[to] = min(lower[to], number + more)
    return lower


def rest_paper(store):
    need_light_endless(store)
    first = lead_kind(store)
    steps = all_steps(store)
    # No paper has greater numbers than these, and none that are greater than what they are lowered to.
    numbers = [place * first[WORTH] for place in range(first[WEIGHT])]
    while not keeps_steps(numbers, steps):
        numbers = lowered(numbers, steps)
    return tuple(numbers)
