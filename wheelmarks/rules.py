"""RULES: whenever some WHEELS show, one of others does; and for how long none may show."""

from wheelmarks.covers import covering_lots, is_covered, uncovered
from wheelmarks.errors import Unfit
from wheelmarks.lates import need_table
from wheelmarks.lots import least_lots
from wheelmarks.mills import begin_table, is_setting, next_show, shows_at
from wheelmarks.values import is_number, is_row, need_wheel, wheels_called

# No NAME is so, and it comes behind all of them: the tick is the last WHEEL of its MILL.
TICK = "~"


def all_choices(wheels):
    """All ways to choose one tick of its stretch for each WHEEL, as pairs (WHEEL, place)."""
    rows = [()]
    for wheel in wheels:
        rows = [(*row, (wheel, place)) for row in rows for place in range(wheel[2])]
    return rows


def tick_mill(mill, choice):
    """The MILL with one WHEEL more, whose begin is a tick at which the choice shows."""
    told = [(TICK, wheel[0], TICK, place, wheel[1]) for wheel, place in choice]
    return ([*mill[0], (TICK, 1, 1)], [*mill[1], *told])


def shown_then(wheels, many):
    """Further SAYINGS, each kept exactly if its WHEEL shows at one of so many ticks from the tick on."""
    return [(name, name, TICK, 1 - many, turn, shown + many - 2) for name, turn, shown in wheels]


def parted(setting):
    """A SETTING with the tick, as a pair of the SETTING without it and the tick."""
    return (setting[:-1], setting[-1][1])


def rule_mills(mill, ones, others):
    """The MILLS of the tick, one for each choice of ones, and what others say of it; checks all."""
    shown, further = wheels_called(mill, ones), wheels_called(mill, others)
    need_table(mill)
    return [tick_mill(mill, choice) for choice in all_choices(shown)], shown_then(further, 1)


def holds(mill, ones, others):
    """Whether one of others shows at each tick at which all of ones do, in ALL SETTINGS."""
    mills, more = rule_mills(mill, ones, others)
    return all([is_covered(own, more) for own in mills])


def broken_at(mill, ones, others):
    """A SETTING and a tick at which all of ones show and none of others, None if there is none."""
    mills, more = rule_mills(mill, ones, others)
    for own in mills:
        setting = uncovered(own, more)
        if setting is not None:
            return parted(setting)
    return None


def is_moment(mill, thing):
    """Whether thing is a pair of a SETTING and a tick."""
    return is_row(thing, 2) and is_setting(mill, thing[0]) and is_number(thing[1])


def is_broken_at(mill, ones, others, thing):
    """Whether thing is a SETTING and a tick at which all of ones show and none of others."""
    shown, further = wheels_called(mill, ones), wheels_called(mill, others)
    need_table(mill)
    if not is_moment(mill, thing):
        return False
    begun = begin_table(thing[0])
    if not all([shows_at(wheel, begun[wheel[0]], thing[1]) for wheel in shown]):
        return False
    return not any([shows_at(wheel, begun[wheel[0]], thing[1]) for wheel in further])


def bare_stretch(mill, others, many):
    """A SETTING and the first of so many ticks at which none of others shows, None if there are none."""
    further = wheels_called(mill, others)
    need_table(mill)
    setting = uncovered(tick_mill(mill, ()), shown_then(further, many))
    return None if setting is None else parted(setting)


def is_bare_stretch(mill, others, many, thing):
    """Whether thing is a SETTING and the first of so many ticks at which none of others shows."""
    further = wheels_called(mill, others)
    need_table(mill)
    if not is_moment(mill, thing):
        return False
    begun = begin_table(thing[0])
    end = thing[1] + many
    return all([next_show(wheel, begun[wheel[0]], thing[1]) >= end for wheel in further])


def silence(mill, others, most):
    """The greatest number up to most of ticks, one behind another, at which none of others shows."""
    further = wheels_called(mill, others)
    need_table(mill)
    own = tick_mill(mill, ())
    # No WHEEL is silent for longer than its round leaves it.
    low, high = 0, min([most, *[turn - shown for _, turn, shown in further]])
    # A stretch of so many ticks has each shorter one in it, so halving finds the greatest.
    while low < high:
        many = (low + high + 1) // 2
        if is_covered(own, shown_then(further, many)):
            high = many - 1
        else:
            low = many
    return low


def left_out(names, gone):
    return [name for name in names if name != gone]


def needless_ones(mill, ones, others):
    """The set of those of ones without each of which, by itself, the RULE holds, too."""
    if not holds(mill, ones, others):
        return ()
    return tuple([name for name in ones if holds(mill, left_out(ones, name), others)])


def needless_others(mill, ones, others):
    """The set of those of others without each of which, by itself, the RULE holds, too."""
    if not holds(mill, ones, others):
        return ()
    return tuple([name for name in others if holds(mill, ones, left_out(others, name))])


def cores(mill, ones, others):
    """The ascending list of the sets of some of others with which, and no part of them, the RULE holds."""
    mills, more = rule_mills(mill, ones, others)
    does = [True] * (1 << len(more))
    for own in mills:
        does = [so and covers for so, covers in zip(does, covering_lots(own, more))]
    return least_lots(others, does)


def with_long(mill, name, shown):
    """The MILL in which this WHEEL shows for so long."""
    wheels = [(wheel[0], wheel[1], shown) if wheel[0] == name else wheel for wheel in mill[0]]
    return (wheels, mill[1])


def least_long(mill, ones, others, name, most):
    """The least long up to most that this one of others must have for the RULE to hold, None if none does."""
    wheels_called(mill, ones)
    wheels_called(mill, others)
    need_wheel(mill, name)
    need_table(mill)
    if name not in others:
        raise Unfit()
    low, high = 1, min(most, wheels_called(mill, [name])[0][1])
    if not holds(with_long(mill, name, high), ones, others):
        return None
    # What holds holds with longer ones, too, so halving finds the least.
    while low < high:
        shown = (low + high) // 2
        if holds(with_long(mill, name, shown), ones, others):
            high = shown
        else:
            low = shown + 1
    return low
