"""MILLS: their kinds of values, what shows when, and MILLS made of others."""

from wheelmarks.errors import Twice, Unfit
from wheelmarks.values import (
    ascends,
    end_names,
    is_name,
    is_number,
    is_row,
    need_end,
    need_wheel,
    saying_called,
    saying_names,
    tupled,
    wheel_names,
)


def is_wheel(thing):
    """Whether thing is a WHEEL, with however great a long."""
    if not is_row(thing, 3) or not is_name(thing[0]):
        return False
    return is_number(thing[1]) and is_number(thing[2]) and 1 <= thing[2] <= thing[1]


def is_saying(thing, ends):
    """Whether thing is a SAYING between two of ends, a dict with True for each."""
    if not is_row(thing, 5):
        return False
    name, one, other, late, dial = thing
    # Kinds come ahead of look-ups: a list can not be looked up in a dict.
    if not (is_name(name) and isinstance(one, str) and isinstance(other, str)):
        return False
    if one == other or one not in ends or other not in ends:
        return False
    return is_number(late) and is_number(dial) and dial >= 0


def is_mill(thing):
    """Whether thing is a MILL, of however many WHEELS and SAYINGS."""
    if not is_row(thing, 2):
        return False
    wheels, sayings = thing
    if not isinstance(wheels, tuple) or not isinstance(sayings, tuple):
        return False
    if not all([is_wheel(wheel) for wheel in wheels]) or not ascends(wheel_names(thing)):
        return False
    ends = {name: True for name in end_names(thing)}
    if not all([is_saying(saying, ends) for saying in sayings]):
        return False
    return ascends(saying_names(thing))


def is_begins(mill, thing):
    """Whether thing is BEGINS of the MILL."""
    names = wheel_names(mill)
    if not is_row(thing, len(names)):
        return False
    for name, pair in zip(names, thing):
        if not is_row(pair, 2) or not isinstance(pair[0], str):
            return False
        if pair[0] != name or not is_number(pair[1]):
            return False
    return True


def is_setting(mill, thing):
    """Whether thing is a SETTING of the MILL."""
    return is_begins(mill, thing) and unkept(mill, thing) == ()


def begin_table(begins):
    """The begin of each WHEEL, and of the crank, by its name."""
    table = {name: begin for name, begin in begins}
    table[""] = 0
    return table


def how_far_off(saying, table):
    """By how much these begins, a table of them, are off what the SAYING says."""
    _, one, other, late, dial = saying
    far = table[other] - table[one] - late
    return far if dial == 0 else far % dial


def off_by(mill, begins, name):
    """By how much this SAYING is off."""
    return how_far_off(saying_called(mill, name), begin_table(begins))


def unkept(mill, begins):
    """The set of the SAYINGS that these BEGINS do not keep."""
    table = begin_table(begins)
    return tuple([saying[0] for saying in mill[1] if how_far_off(saying, table) != 0])


def ticks_into_round(wheel, begin, tick):
    """How many ticks of its round are behind the WHEEL at this tick, from 0."""
    return (tick - begin) % wheel[1]


def shows_at(wheel, begin, tick):
    """Whether the WHEEL shows at this tick if this is its begin."""
    return ticks_into_round(wheel, begin, tick) < wheel[2]


def next_show(wheel, begin, tick):
    """The first tick from this one on at which the WHEEL shows."""
    if shows_at(wheel, begin, tick):
        return tick
    return tick + wheel[1] - ticks_into_round(wheel, begin, tick)


def last_show(wheel, begin, tick):
    """The last tick up to this one at which the WHEEL shows."""
    if shows_at(wheel, begin, tick):
        return tick
    return tick - ticks_into_round(wheel, begin, tick) + wheel[2] - 1


def showing(mill, begins, tick):
    """The set of the WHEELS that show at this tick."""
    table = begin_table(begins)
    return tuple([wheel[0] for wheel in mill[0] if shows_at(wheel, table[wheel[0]], tick)])


def with_wheel(mill, wheel):
    """The MILL with this WHEEL, too."""
    wheels, sayings = tupled(mill)
    if wheel[0] in wheel_names(mill):
        raise Twice(wheel[0])
    return (tuple(sorted([*wheels, tupled(wheel)])), sayings)


def without_wheel(mill, name):
    """The MILL without this WHEEL, of which no SAYING speaks."""
    need_wheel(mill, name)
    wheels, sayings = tupled(mill)
    if any([name in (one, other) for _, one, other, _, _ in sayings]):
        raise Unfit()
    return (tuple([wheel for wheel in wheels if wheel[0] != name]), sayings)


def with_saying(mill, saying):
    """The MILL with this SAYING, too."""
    wheels, sayings = tupled(mill)
    name, one, other, _, _ = saying
    need_end(mill, one)
    need_end(mill, other)
    if name in saying_names(mill):
        raise Twice(name)
    if one == other:
        raise Unfit()
    return (wheels, tuple(sorted([*sayings, tupled(saying)])))


def without_saying(mill, name):
    """The MILL without this SAYING."""
    gone = saying_called(mill, name)
    wheels, sayings = tupled(mill)
    return (wheels, tuple([saying for saying in sayings if saying[0] != gone[0]]))


def turned_saying(mill, name):
    """The MILL in which this SAYING says the same from its other to its one."""
    _, one, other, late, dial = saying_called(mill, name)
    wheels, sayings = tupled(mill)
    turned = (name, other, one, -late, dial)
    return (wheels, tuple([turned if saying[0] == name else saying for saying in sayings]))


def tidy_saying(saying):
    name, one, other, late, dial = saying
    return (name, one, other, late if dial == 0 else late % dial, dial)


def tidied(mill):
    """The MILL with each late from 0 below its dial, those of dial 0 as they are."""
    wheels, sayings = tupled(mill)
    return (wheels, tuple([tidy_saying(saying) for saying in sayings]))


def shifted_saying(saying, wheel, ticks):
    """The SAYING that is kept if this begin is so many ticks later than for the first one."""
    name, one, other, late, dial = saying
    if other == wheel:
        return (name, one, other, late + ticks, dial)
    if one == wheel:
        return (name, one, other, late - ticks, dial)
    return saying


def shifted(mill, name, ticks):
    """The MILL whose SAYINGS are kept by begins of this WHEEL that are so many ticks later."""
    need_wheel(mill, name)
    wheels, sayings = tupled(mill)
    return (wheels, tuple([shifted_saying(saying, name, ticks) for saying in sayings]))


def renamed(mill, pairs):
    """The MILL whose WHEELS have these words as names, all changed at once."""
    for name, _ in pairs:
        need_wheel(mill, name)
    words = {name: name for name in end_names(mill)}
    for name, word in pairs:
        words[name] = word
    wheels, sayings = tupled(mill)
    named = sorted([(words[name], turn, shown) for name, turn, shown in wheels])
    for ahead, behind in zip(named, named[1:]):
        if ahead[0] == behind[0]:
            raise Twice(behind[0])
    told = [(name, words[one], words[other], late, dial) for name, one, other, late, dial in sayings]
    return (tuple(named), tuple(told))
