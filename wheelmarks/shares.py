"""Which part of all SETTINGS keeps some of several further SAYINGS, and which part none.

A lot of them is a number with a bit for each one, by its place.
"""

from math import lcm

from wheelmarks.lates import class_of, told_too
from wheelmarks.laying import ahead_dials


def ways_kept(further):
    """The CLASSES of lates by which a further SAYING is kept, no two of them alike."""
    _, _, _, late, dial, room = further
    many = room + 1 if dial == 0 else min(room + 1, dial)
    return [class_of(late + at, dial) for at in range(many)]


def tables_kept(ends, table, more):
    """A pair of a lot of more and a table for each way in which this lot can be kept."""
    found = [(0, table)]
    for place, further in enumerate(more):
        told = []
        for lot, known in found:
            for way in ways_kept(further):
                narrowed = told_too(ends, known, further[1], further[2], way)
                if narrowed is not None:
                    told.append((lot | 1 << place, narrowed))
        found.extend(told)
    return found


def times_fewer(before, behind):
    """How many times fewer SETTINGS there are if dials_ahead grow so; 0 if without end."""
    times = 1
    for dial, greater in zip(before, behind):
        if dial != 0:
            times *= greater // dial
    return times


def kept_parts(ends, table, more):
    """A pair: for each lot of more the part of SETTINGS that keeps all of it, and the whole."""
    before = ahead_dials(ends, table)
    found = tables_kept(ends, table, more)
    fewer = [times_fewer(before, ahead_dials(ends, known)) for _, known in found]
    whole = 1
    for times in fewer:
        if times != 0:
            whole = lcm(whole, times)
    parts = [0] * (1 << len(more))
    for (lot, _), times in zip(found, fewer):
        if times != 0:
            parts[lot] += whole // times
    return parts, whole


def taken_off(parts, places):
    """Of each lot, what keeps none of it at these places, and all of it at the other ones."""
    left = list(parts)
    for place in places:
        bit = 1 << place
        for lot in range(len(left)):
            if lot & bit != 0:
                left[lot] = left[lot ^ bit] - left[lot]
    return left


def bare_parts(ends, table, more):
    """A pair: for each lot of more the part of SETTINGS that keeps none of it, and the whole."""
    parts, whole = kept_parts(ends, table, more)
    return taken_off(parts, list(range(len(more)))), whole
