"""What is sure of how late one WHEEL is behind another one, with the WAYS that tell it."""

from math import lcm

from wheelmarks.lates import need_table
from wheelmarks.laying import lay_late
from wheelmarks.lots import fewest_to_reach, pairs_among
from wheelmarks.mills import begin_table, is_setting
from wheelmarks.rings import is_step, ring_divisor, step_ends, steps_away
from wheelmarks.values import ascends, end_names, is_multiple, is_row, need_end


def need_ends(mill, one, other):
    need_end(mill, one)
    need_end(mill, other)


def sure_late(mill, one, other):
    """The CLASS of all lates of other behind one in SETTINGS."""
    need_ends(mill, one, other)
    return need_table(mill)[one, other]


def sure_among(table, ends):
    """The quadruples (one, other, late, dial) of what is sure of these ends up to more than 1."""
    found = [(one, other, *table[one, other]) for one, other in pairs_among(ends)]
    return tuple([told for told in found if told[3] != 1])


def sure_lates(mill):
    """The quadruples (one, other, late, dial) of all that is sure up to more than 1."""
    return sure_among(need_table(mill), end_names(mill))


def is_sure(mill, one, other, late, dial):
    """Whether other is so late behind one, up to a multiple of dial, FOR ALL SETTINGS."""
    known, sure = sure_late(mill, one, other)
    return is_multiple(sure, dial) and is_multiple(late - known, dial)


def all_ways(mill, one, other):
    """The ascending list of all WAYS from one to other."""
    need_ends(mill, one, other)
    if one == other:
        return []
    away = steps_away(mill)
    found = []
    begun = [((), (one,))]
    while begun:
        way, been = begun.pop()
        for step, end in away[been[-1]]:
            if end == other:
                found.append((*way, step))
            elif end not in been:
                begun.append(((*way, step), (*been, end)))
    return sorted(found)


def is_way(mill, one, other, thing):
    """Whether thing is a WAY from one to other."""
    need_ends(mill, one, other)
    sayings = {saying[0]: saying for saying in mill[1]}
    if not isinstance(thing, tuple) or not all([is_step(sayings, step) for step in thing]):
        return False
    starts = [step_ends(sayings, step)[0] for step in thing]
    goals = [step_ends(sayings, step)[1] for step in thing]
    # Without a step there is no start, so () is none.
    if starts != [one, *goals[:-1]] or goals[-1] != other:
        return False
    return one not in goals and len(set(goals)) == len(goals)


def all_told(mill, ways):
    """Up to what dial these WAYS together tell."""
    dial = 1
    for way in ways:
        dial = lcm(dial, ring_divisor(mill, way))
    return dial


def sure_ways(mill, one, other):
    """A set of WAYS that tell all that is sure of the two."""
    sure_late(mill, one, other)
    chosen = []
    dial = 1
    for way in all_ways(mill, one, other):
        more = lcm(dial, ring_divisor(mill, way))
        if more != dial:
            dial = more
            chosen.append(way)
    return tuple(chosen)


def is_sure_ways(mill, one, other, thing):
    """Whether thing is a set of WAYS that tell all that is sure of the two."""
    dial = sure_late(mill, one, other)[1]
    if one == other:
        return thing == ()
    if not isinstance(thing, tuple) or not all([is_way(mill, one, other, way) for way in thing]):
        return False
    return ascends(thing) and all_told(mill, thing) == dial


def fewest_ways(mill, one, other):
    """The least set of WAYS that tell all that is sure of the two, those with the fewest first."""
    dial = sure_late(mill, one, other)[1]
    if one == other:
        return ()
    ways = all_ways(mill, one, other)
    places = fewest_to_reach([ring_divisor(mill, way) for way in ways], dial)
    return tuple([ways[place] for place in places])


def unlike_settings(mill, one, other, dial):
    """Two SETTINGS whose lates differ by no multiple of dial, None if there are no such two."""
    late, sure = sure_late(mill, one, other)
    if is_multiple(sure, dial):
        return None
    ends, table = end_names(mill), need_table(mill)
    return (
        lay_late(ends, table, one, other, late),
        lay_late(ends, table, one, other, late + sure),
    )


def late_in(setting, one, other):
    """How late other is behind one in this SETTING."""
    table = begin_table(setting)
    return table[other] - table[one]


def is_unlike(mill, one, other, dial, thing):
    """Whether thing is a pair of SETTINGS whose lates differ by no multiple of dial."""
    sure_late(mill, one, other)
    if not is_row(thing, 2) or not all([is_setting(mill, setting) for setting in thing]):
        return False
    first, second = [late_in(setting, one, other) for setting in thing]
    return not is_multiple(second - first, dial)


def reached_from(mill, one):
    """The ascending list of the ends to which WAYS lead from this one, with it."""
    away = steps_away(mill)
    been = {one: True}
    begun = [one]
    while begun:
        for _, end in away[begun.pop()]:
            if end not in been:
                been[end] = True
                begun.append(end)
    return sorted(been)


def hang_together(mill):
    """The set of sets of ends between which WAYS lead."""
    return tuple(sorted(set([tuple(reached_from(mill, end)) for end in end_names(mill)])))


def told_lots(mill):
    """The set of sets of ends whose lates behind each other are sure to the tick."""
    table = need_table(mill)
    ends = end_names(mill)
    lots = [tuple([other for other in ends if table[one, other][1] == 0]) for one in ends]
    return tuple(sorted(set(lots)))
