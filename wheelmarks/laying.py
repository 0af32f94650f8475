"""Begins laid WHEEL by WHEEL, and the MOVES that lead from each SETTING to all others.

In all functions ends are the crank and the WHEELS of a MILL, ascending, and table is what is
sure of each two of them, as sure_table tells it.
"""

from math import lcm

from wheelmarks.lates import class_of, common_class, flat


def open_begins(table, laid, end):
    """The CLASS of the begins of this end with which those laid, a dict of them by name, go on."""
    free = (0, 1)
    for other, begin in laid.items():
        late, dial = table[other, end]
        free = common_class(free, class_of(begin + late, dial))
    return free


def lay(ends, table, begun):
    """The BEGINS that are laid with those begun, a dict of begins by name that go on."""
    laid = {"": 0}
    for name, begin in begun.items():
        laid[name] = begin
    for end in ends:
        if end not in laid:
            laid[end] = open_begins(table, laid, end)[0]
    return tuple([(end, laid[end]) for end in ends[1:]])


def lay_late(ends, table, one, other, late):
    """A SETTING in which other is so late behind one, a late that their CLASS has."""
    far, dial = table["", other]
    # Both must keep what is sure by the crank, as well as of each other.
    begin = common_class(table["", one], class_of(far - late, dial))[0]
    return lay(ends, table, {one: begin, other: begin + late})


def ahead_dials(ends, table):
    """For each WHEEL up to what dial it is sure by the crank and the WHEELS ahead of it."""
    dials = []
    for place in range(1, len(ends)):
        dial = 1
        for ahead in ends[:place]:
            dial = lcm(dial, table[ahead, ends[place]][1])
        dials.append(dial)
    return dials


def all_moves(ends, table):
    """The MOVES, one for each WHEEL that can be moved while those ahead of it stay."""
    level = flat(table)
    found = []
    for place, dial in enumerate(ahead_dials(ends, table)):
        if dial != 0:
            begun = {end: 0 for end in ends[:place + 1]}
            begun[ends[place + 1]] = dial
            found.append(lay(ends, level, begun))
    return tuple(found)


def moved(setting, move, times):
    """The SETTING that lies so many times this MOVE away from the one handed in."""
    return tuple([(name, begin + times * ticks) for (name, begin), (_, ticks) in zip(setting, move)])
