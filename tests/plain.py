"""Plain goings through of all loads, by the document's words alone: nothing of the program is asked here."""

import fractions
import itertools


def small_stores():
    """Of 0 to 3 kinds, like ones among them, one without end, one not there at all, a worth of 0."""
    kinds = [(1, 0, None), (2, 3, 2), (3, 1, 0), (2, 5, None), (4, 4, 1)]
    for many in range(4):
        for store in itertools.product(kinds, repeat=many):
            yield store


def some_stores():
    for store in small_stores():
        yield store
    yield ((3, 4, 2), (3, 4, 2), (1, 1, 3), (2, 2, None))
    yield ((2, 2, 1), (3, 3, None), (1, 1, 1), (2, 2, 1), (1, 0, 2))
    yield ((5, 9, 1), (4, 7, 1), (3, 5, None), (2, 3, 1), (1, 1, 2))
    yield ((9, 50, 1), (10, 60, None), (11, 0, None))


def single_stores():
    """Of each number of kinds from 0 to 7, with like ones, some that are not there, and worths of 0."""
    kinds = [(2, 1, 1), (1, 1, 1), (3, 2, 0), (1, 0, 1), (2, 3, 1)]
    for many in range(5):
        for store in itertools.product(kinds, repeat=many):
            yield store
    for turn in range(12):
        many = 5 + turn % 3
        yield tuple((1 + (place * 5 + turn) % 4, (place * 3 + turn * turn) % 5, 1) for place in range(many))


def comes_to(store, load, part):
    return sum(kind[part] * times for kind, times in zip(store, load))


def some_loads(store, often):
    """The loads that take no kind more often than so often, rising as tuples are ordered."""
    mosts = [often if kind[2] is None else min(kind[2], often) for kind in store]
    return list(itertools.product(*[range(most + 1) for most in mosts]))


def all_that_fit(store, room):
    return [load for load in some_loads(store, room) if comes_to(store, load, 0) <= room]


def best_of(store, room):
    return max(comes_to(store, load, 1) for load in all_that_fit(store, room))


def all_best(store, room):
    best = best_of(store, room)
    return [load for load in all_that_fit(store, room) if comes_to(store, load, 1) == best]


def all_lightest(store, goal):
    """The lightest of the loads with so much worth or more; one that takes a kind more often than goal is none."""
    having = [load for load in some_loads(store, goal + 1) if comes_to(store, load, 1) >= goal]
    least = min((comes_to(store, load, 0) for load in having), default=None)
    return least, [load for load in having if comes_to(store, load, 0) == least]


def halves_of(store):
    middle = len(store) // 2
    return store[:middle], store[middle:]


def weighed(kinds):
    return [(comes_to(kinds, load, 0), comes_to(kinds, load, 1), load) for load in some_loads(kinds, 1)]


def beats(other, one):
    if other == one or other[0] > one[0] or other[1] < one[1]:
        return False
    return other[0] < one[0] or other[1] > one[1] or other[2] < one[2]


def unbeaten_of(kinds):
    tried = weighed(kinds)
    return sorted(one for one in tried if not any(beats(other, one) for other in tried))


def stair_of(store, room, goal):
    """The steps as told, however far they go; None where they come upon a load with so much worth."""
    firsts, seconds = [unbeaten_of(kinds) for kinds in halves_of(store)]
    step = (0, len(seconds) - 1)
    steps = []
    while 0 <= step[0] < len(firsts) and 0 <= step[1] < len(seconds):
        steps.append(step)
        one, other = firsts[step[0]], seconds[step[1]]
        fit = one[0] + other[0] <= room
        if fit and one[1] + other[1] >= goal:
            return None
        step = (step[0] + 1, step[1]) if fit else (step[0], step[1] - 1)
    return tuple(steps)


def pair(number):
    return (number.numerator, number.denominator)


def shares_of(store, room):
    """The best shares, by Python's own fractions."""
    shares = [fractions.Fraction(0)] * len(store)
    left = fractions.Fraction(room)
    waiting = [place for place, kind in enumerate(store) if kind[1] > 0]
    while waiting:
        dearest = max(fractions.Fraction(store[place][1], store[place][0]) for place in waiting)
        place = min(place for place in waiting if fractions.Fraction(store[place][1], store[place][0]) == dearest)
        waiting.remove(place)
        weight, worth, most = store[place]
        shares[place] = left / weight if most is None else min(left / weight, fractions.Fraction(most))
        left -= shares[place] * weight
    return shares


def shares_worth_of(store, room):
    return sum((share * kind[1] for share, kind in zip(shares_of(store, room), store)), fractions.Fraction(0))


def bound_of(store, room, price):
    """The bound of a price that is one of Python's own fractions."""
    total = room * price
    for weight, worth, most in store:
        if worth > weight * price:
            if most is None:
                return None
            total += (worth - weight * price) * most
    return total
