"""Plain goings through of all loads, by the document's words alone: nothing of the program is asked here."""

import fractions
import itertools
import math


def small_stores():
    """Of 0 to 3 kinds, like ones among them, one without end, one not there at all, a worth of 0."""
    kinds = [(1, 0, None), (2, 3, 2), (3, 1, 0), (2, 5, None), (4, 4, 1)]
    for many in range(4):
        for store in itertools.product(kinds, repeat=many):
            yield store


def some_stores():
    for store in small_stores():
        yield store
    yield ((3, 4, 2), (3, 4, 2), (1, 1, 3), (2, 2, None))
    yield ((2, 2, 1), (3, 3, None), (1, 1, 1), (2, 2, 1), (1, 0, 2))
    yield ((5, 9, 1), (4, 7, 1), (3, 5, None), (2, 3, 1), (1, 1, 2))
    yield ((9, 50, 1), (10, 60, None), (11, 0, None))


def single_stores():
    """Of each number of kinds from 0 to 7, with like ones, some that are not there, and worths of 0."""
    kinds = [(2, 1, 1), (1, 1, 1), (3, 2, 0), (1, 0, 1), (2, 3, 1)]
    for many in range(5):
        for store in itertools.product(kinds, repeat=many):
            yield store
    for turn in range(12):
        many = 5 + turn % 3
        yield tuple((1 + (place * 5 + turn) % 4, (place * 3 + turn * turn) % 5, 1) for place in range(many))


def comes_to(store, load, part):
    return sum(kind[part] * times for kind, times in zip(store, load))


def some_loads(store, often):
    """The loads that take no kind more often than so often, rising as tuples are ordered."""
    mosts = [often if kind[2] is None else min(kind[2], often) for kind in store]
    return list(itertools.product(*[range(most + 1) for most in mosts]))


def all_that_fit(store, room):
    return [load for load in some_loads(store, room) if comes_to(store, load, 0) <= room]


def best_of(store, room):
    return max(comes_to(store, load, 1) for load in all_that_fit(store, room))


def all_best(store, room):
    best = best_of(store, room)
    return [load for load in all_that_fit(store, room) if comes_to(store, load, 1) == best]


def all_lightest(store, goal):
    """The lightest of the loads with so much worth or more; one that takes a kind more often than goal is none."""
    having = [load for load in some_loads(store, goal + 1) if comes_to(store, load, 1) >= goal]
    least = min((comes_to(store, load, 0) for load in having), default=None)
    return least, [load for load in having if comes_to(store, load, 0) == least]


def halves_of(store):
    middle = len(store) // 2
    return store[:middle], store[middle:]


def weighed(kinds):
    return [(comes_to(kinds, load, 0), comes_to(kinds, load, 1), load) for load in some_loads(kinds, 1)]


def beats(other, one):
    if other == one or other[0] > one[0] or other[1] < one[1]:
        return False
    return other[0] < one[0] or other[1] > one[1] or other[2] < one[2]


def unbeaten_of(kinds):
    tried = weighed(kinds)
    return sorted(one for one in tried if not any(beats(other, one) for other in tried))


def stair_of(store, room, goal):
    """The steps as told, however far they go; None where they come upon a load with so much worth."""
    firsts, seconds = [unbeaten_of(kinds) for kinds in halves_of(store)]
    step = (0, len(seconds) - 1)
    steps = []
    while 0 <= step[0] < len(firsts) and 0 <= step[1] < len(seconds):
        steps.append(step)
        one, other = firsts[step[0]], seconds[step[1]]
        fit = one[0] + other[0] <= room
        if fit and one[1] + other[1] >= goal:
            return None
        step = (step[0] + 1, step[1]) if fit else (step[0], step[1] - 1)
    return tuple(steps)


def pair(number):
    return (number.numerator, number.denominator)


def shares_of(store, room):
    """The best shares, by Python's own fractions."""
    shares = [fractions.Fraction(0)] * len(store)
    left = fractions.Fraction(room)
    waiting = [place for place, kind in enumerate(store) if kind[1] > 0]
    while waiting:
        dearest = max(fractions.Fraction(store[place][1], store[place][0]) for place in waiting)
        place = min(place for place in waiting if fractions.Fraction(store[place][1], store[place][0]) == dearest)
        waiting.remove(place)
        weight, worth, most = store[place]
        shares[place] = left / weight if most is None else min(left / weight, fractions.Fraction(most))
        left -= shares[place] * weight
    return shares


def shares_worth_of(store, room):
    return sum((share * kind[1] for share, kind in zip(shares_of(store, room), store)), fractions.Fraction(0))


def bound_of(store, room, price):
    """The bound of a price that is one of Python's own fractions."""
    total = room * price
    for weight, worth, most in store:
        if worth > weight * price:
            if most is None:
                return None
            total += (worth - weight * price) * most
    return total


def is_number(thing):
    return thing.__class__ is int


def is_price_of(thing):
    """Whether it is a price, by the words for a fraction."""
    if thing.__class__ is not tuple or len(thing) != 2 or not is_number(thing[0]) or not is_number(thing[1]):
        return False
    return thing[0] >= 0 and thing[1] >= 1 and math.gcd(thing[0], thing[1]) == 1


def keeps_table(paper, store, room):
    """Whether the numbers of what has the form of a table paper are as told."""
    for place, (weight, worth, most) in enumerate(store):
        for size in range(room + 1):
            times = 0
            while times * weight <= size and (most is None or times <= most):
                if paper[place + 1][size] < paper[place][size - times * weight] + times * worth:
                    return False
                times += 1
    return True


def is_cut_of(thing, store, room, u):
    """Whether it is a cut, gone along by the words for it."""
    if thing.__class__ is not tuple or len(thing) not in (2, 3) or thing[0].__class__ is not str:
        return False
    if len(thing) == 2:
        if thing[0] != "price" or not is_price_of(thing[1]):
            return False
        most = bound_of(store, room, fractions.Fraction(*thing[1]))
        return most is not None and most < u
    word, place, cuts = thing
    if word != "kind" or not is_number(place) or not 0 <= place < len(store) or cuts.__class__ is not tuple:
        return False
    weight, worth, most = store[place]
    if most == 0:
        return False
    wanted = [times for times in range(room // weight + 1) if most is None or times <= most]
    if len(cuts) != len(wanted):
        return False
    left = store[:place] + ((weight, worth, 0),) + store[place + 1:]
    return all(is_cut_of(cuts[times], left, room - times * weight, u - times * worth) for times in wanted)


def endless_stores():
    """Of one to three kinds of weights up to 4, like ones and worths of 0 among them."""
    kinds = [(1, 0, None), (1, 1, None), (2, 3, None), (3, 4, None), (3, 5, None), (4, 6, None), (4, 0, None)]
    for many in range(1, 4):
        for store in itertools.product(kinds, repeat=many):
            yield store


def lead_of(store):
    ranks = [(-fractions.Fraction(kind[1], kind[0]), kind[0], place) for place, kind in enumerate(store)]
    return min(ranks)[2]


def endless_bests(store, rooms):
    """The best worths of rooms from 0 on, each from those ahead of it by one thing more."""
    bests = [0]
    while len(bests) < rooms:
        room = len(bests)
        bests.append(max([0] + [bests[room - weight] + worth for weight, worth, most in store if weight <= room]))
    return bests


def start_of(store):
    """The least room from which on it goes in rounds, looked for twice as far as it can lie."""
    weight, worth, most = store[lead_of(store)]
    far = 2 * (weight + weight * max(kind[0] for kind in store))
    bests = endless_bests(store, far)
    wrong = [room for room in range(weight, far) if bests[room] != bests[room - weight] + worth]
    return max(wrong, default=weight - 1) + 1


def is_rest_paper_of(thing, store):
    weight, worth, most = store[lead_of(store)]
    if thing.__class__ is not tuple or len(thing) != weight or not all(is_number(number) for number in thing):
        return False
    if thing[0] != 0 or min(thing) < 0:
        return False
    for place, number in enumerate(thing):
        if thing[(place + 1) % weight] > number + worth:
            return False
        for kind in store:
            if thing[(place + kind[0]) % weight] > number + kind[0] * worth - kind[1] * weight:
                return False
    return True


def all_that_fill(store, room):
    return [load for load in some_loads(store, room) if comes_to(store, load, 0) == room]


def rooms_filled(store, rooms):
    """Which of the rooms from 0 on some load of an endless store fills."""
    full = {0}
    for room in range(1, rooms):
        if any(room - kind[0] in full for kind in store):
            full.add(room)
    return full


def all_stows(store):
    """Rising as tuples are ordered."""
    return list(itertools.product(*[range(3) if kind[2] == 1 else (0,) for kind in store]))


def in_sack(store, stow, sack):
    return sum(kind[0] for kind, where in zip(store, stow) if where == sack)


def in_both(store, stow):
    return sum(kind[1] for kind, where in zip(store, stow) if where != 0)


def stows_that_fit(store, one, other):
    return [stow for stow in all_stows(store) if in_sack(store, stow, 1) <= one and in_sack(store, stow, 2) <= other]


def best_stows(store, one, other):
    fitting = stows_that_fit(store, one, other)
    best = max(in_both(store, stow) for stow in fitting)
    return best, [stow for stow in fitting if in_both(store, stow) == best]


def two_bound_of(store, one, other, price, more):
    """The bound of two prices that are Python's own fractions."""
    over = [kind[1] - kind[0] * min(price, more) for kind in store if kind[2] == 1]
    return one * price + other * more + sum(part for part in over if part > 0)


def so_beats(store, by, place):
    """Whether the one is without end, no heavier and worth no less, whatever the places."""
    if by == place or store[by][2] is not None:
        return False
    return store[by][0] <= store[place][0] and store[by][1] >= store[place][1]


def beaten_of(store):
    pairs = []
    for place in range(len(store)):
        by = [other for other in range(len(store)) if so_beats(store, other, place)]
        by = [other for other in by if not (so_beats(store, place, other) and place < other)]
        if by:
            pairs.append((place, min(by)))
    return pairs


def joined_of(store):
    mosts = {}
    for weight, worth, most in store:
        mosts.setdefault((weight, worth), []).append(most)
    return tuple(pair + (None if None in most else sum(most),) for pair, most in mosts.items())


def never_of(store, room, u):
    places = []
    for place, (weight, worth, most) in enumerate(store):
        left = store[:place] + ((weight, worth, None if most is None else most - 1),) + store[place + 1:]
        if most == 0 or weight > room or worth + math.floor(shares_worth_of(left, room - weight)) < u:
            places.append(place)
    return places
