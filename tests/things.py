"""Things that several tests hand in."""

BIG = 10 ** 30 - 1
STORE = ((3, 5, 2), (1, 0, None), (4, 7, 0))
TWELVE = tuple((place + 1, place, place) for place in range(12))
THIRTEEN = TWELVE + ((13, 12, 12),)


def nested(depth, wrap):
    thing = None
    for _ in range(depth):
        thing = wrap(thing)
    return thing


def odd_things():
    """Things that are no store, no load of STORE, no number and no text of a store."""
    return [
        True, False, None, -1, -BIG, "a", "1", "3/5*2 1/0", [], {}, [3, 5, 2], {3: 5}, {"weight": 3},
        [(3, 5, 2)], [[3, 5, 2]], ([3, 5, 2],), ({},), (None,), (True,), ("3/5*2",), (-1,),
        (None, None, None), ("", "", ""), ((), (), ()), ([], [], []), ({}, {}, {}),
        {(3, 5, 2): None}, {None: [True, {"a": (1, [2, {}])}]},
        nested(16, lambda thing: [thing]), nested(16, lambda thing: (thing,)),
        nested(16, lambda thing: {"a": thing}), nested(8, lambda thing: (thing, [thing])),
    ]


def no_kinds():
    return odd_things() + [
        5, "", (), (3, 5), (3, 5, 2, 1), [3, 5, None],
        (0, 5, 2), (-3, 5, 2), (3, -1, 2), (3, 5, -1), (-BIG, 5, 2),
        (True, 5, 2), (3, True, 2), (3, False, 2), (3, 5, True), (3, 5, False),
        (None, 5, 2), (3, None, 2), ("3", 5, 2), (3, "5", 2), (3, 5, "2"), (3, 5, ""),
        ([3], 5, 2), (3, (5,), 2), (3, 5, ()), (3, 5, []), (3, 5, {}), ({}, 5, 2), ((), 5, 2),
    ]


def no_stores():
    wrong = odd_things() + [5, "", 0, (3, 5, 2), THIRTEEN, [], list(STORE), {0: (3, 5, 2)}, STORE + (None,)]
    for kind in no_kinds():
        wrong.append((kind,))
        wrong.append(((3, 5, 2), kind))
        wrong.append((kind, (3, 5, 2)))
    return wrong


def no_loads():
    """Things that are no load of STORE."""
    return odd_things() + [
        5, "", (), (1, 1), (1, 1, 0, 0), [1, 1, 0], {0: 1, 1: 1, 2: 0},
        (3, 1, 0), (BIG, 1, 0), (1, 1, 1), (-1, 1, 0), (1, -1, 0), (1, 1, -1),
        (True, 1, 0), (False, 1, 0), (1, True, 0), (1, 1, False), (None, 1, 0), (1, None, 0), (1, 1, None),
        ("1", 1, 0), (1, "1", 0), (1, [], 0), (1, (1,), 0), (1, {}, 0), STORE,
    ]


def no_counts():
    """Things that are no whole number from 0 on."""
    return odd_things() + ["", "0", (), (0,), [0], STORE]


def no_wholes():
    """Things that are no whole number, not below 0 either."""
    return [thing for thing in no_counts() if isinstance(thing, bool) or not isinstance(thing, int)]


def no_prices():
    return odd_things() + [
        0, 1, 5, "", "1/2", "12", (), (1,), (1, 2, 3), (1, 1, 1), [1, 2], [0, 1], {1: 2}, ((1, 2),), ((1, 2), 1),
        (0, 0), (1, 0), (5, 0), (0, 2), (0, 3), (0, BIG), (2, 2), (2, 4), (6, 4), (3, 3), (15, 35), (BIG, BIG),
        (2 * 10 ** 28, 10 ** 28), (-1, 2), (1, -2), (-1, -2), (0, -1), (-1, 1), (-BIG, 1), (1, -1), (-3, 3),
        (True, 1), (True, 2), (1, True), (0, True), (True, True), (False, 1), (False, True), (0, False), (1, False),
        (None, 1), (1, None), ("1", 2), (1, "2"), ("1", "2"), ([1], 2), (1, [2]), ((1,), (2,)), ({}, 1), (1, {}),
        ((), 1), (1, ()), STORE, TWELVE,
    ]


NOT_ENDLESS = [
    (), ((1, 1, 1),), ((1, 1, 0),), ((1, 1, BIG),), ((2, 3, None), (1, 0, 2)), ((1, 0, 2), (2, 3, None)),
    ((2, 3, None), (2, 3, None), (2, 3, 0)), STORE, TWELVE, ((21, 3, None), (1, 1, 1)), ((21, 1, 1),),
    ((1, 1, None),) * 11 + ((BIG, 1, 1),),
]
TOO_HEAVY = [
    ((21, 3, None),), ((1, 1, None), (21, 0, None)), ((21, 50, None), (1, 1, None)), ((BIG, BIG, None),),
    ((20, 3, None),) * 11 + ((21, 3, None),),
]
