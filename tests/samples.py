"""MILLS and odd values that several tests use."""

WHEELS = (("a", 12, 1), ("b", 8, 2), ("c", 6, 1))
MILL = (WHEELS, (("p", "a", "b", 3, 12), ("q", "b", "c", 2, 4), ("r", "a", "c", 5, 6)))
WRONG = (
    WHEELS,
    (
        ("p", "a", "b", 3, 12),
        ("q", "b", "c", 2, 4),
        ("r", "a", "c", 4, 6),
        ("s", "", "a", 7, 9),
        ("t", "c", "", 0, 1),
    ),
)
BEGINS = (("a", 0), ("b", 3), ("c", 5))
FURTHER = (("a", 0), ("b", 3), ("c", 11))
EMPTY = ((), ())
BARE = (WHEELS, ())
GREAT = 10 ** 40
TWO = ((("a", 2, 1),), (("x", "", "a", 3, 10), ("y", "a", "", 1, 4), ("z", "a", "", 2, GREAT)))
# Three steps at most never tell that it is wrong: each RING has all four.
SQUARE = (
    (("a", 6, 1), ("b", 6, 1), ("c", 6, 1), ("d", 6, 1)),
    (("p", "a", "b", 0, 2), ("q", "c", "d", 0, 2), ("r", "b", "c", 0, 2), ("s", "a", "d", 1, 2)),
)
# One WHEEL and one SAYING have the same name; numbers are great, and below 0.
EDGES = (
    (("p", GREAT, 4), ("q", 3, 3), ("qq", 1, 1)),
    (
        ("a", "", "p", -GREAT, GREAT),
        ("p", "q", "p", -1, 0),
        ("q", "p", "", 5, 1),
        ("zzzzzzzz", "qq", "q", GREAT, 0),
    ),
)
MILLS = (MILL, WRONG, EMPTY, BARE, TWO, SQUARE, EDGES)


def nested(depth):
    """Tuples in tuples, so many levels deep."""
    thing = ()
    for _ in range(depth - 1):
        thing = (thing,)
    return thing


ODD = (
    True, False, None, 0, 1, -1, 2, GREAT, "", "a", "b", "p", "A", "a1", "aaaaaaaaa", "\u00e9",
    (), [], (0,), ("a",), ("a", 0), ["a", 0], ("a", 1, 1), ("p", 1), ("p", "a", "b", 0, 2),
    ((), ()), [(), ()], ((), (), ()), (1, 2, 3, 4, 5, 6), nested(12),
)


def listed(value):
    """The value with a list in the place of each tuple, at any depth."""
    if isinstance(value, (list, tuple)):
        return [listed(part) for part in value]
    return value


def mixed(value, depth=0):
    """The value with a list in the place of each tuple at every second level."""
    if not isinstance(value, (list, tuple)):
        return value
    parts = [mixed(part, depth + 1) for part in value]
    return parts if depth % 2 else tuple(parts)


def patchy(value, at=0):
    """The value with a list in the place of every second tuple beside others."""
    if not isinstance(value, (list, tuple)):
        return value
    parts = [patchy(part, place + at) for place, part in enumerate(value)]
    return parts if at % 2 else tuple(parts)


def has_list(value):
    if isinstance(value, tuple):
        return any(has_list(part) for part in value)
    return isinstance(value, list)


def changed(thing):
    """The thing, all that comes if one part of it is an odd one, is gone, twice or elsewhere."""
    yield thing
    yield from ODD
    if not isinstance(thing, tuple):
        return
    yield list(thing)
    for at in range(len(thing)):
        yield thing[:at] + thing[at + 1:]
        yield thing[:at] + (thing[at], thing[at]) + thing[at + 1:]
        yield thing[at:] + thing[:at]
        for part in changed(thing[at]):
            yield thing[:at] + (part,) + thing[at + 1:]
