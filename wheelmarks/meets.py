"""Whether WHEELS can show together, whether they surely do, and when."""

from math import gcd

from wheelmarks.covers import is_covered, uncovered
from wheelmarks.errors import Twice
from wheelmarks.lates import class_of, common_class, need_table
from wheelmarks.lots import greatest_lots_of, members, pairs_among
from wheelmarks.mills import begin_table, is_setting
from wheelmarks.values import (
    is_multiple,
    is_number,
    is_row,
    saying_names,
    tupled,
    wheel_names,
    wheels_called,
)


def can_at(table, wheel, place, other, spot):
    """Whether at some tick of some SETTING each of two WHEELS shows at this place of its stretch."""
    late, dial = table[wheel[0], other[0]]
    return is_multiple(place - spot - late, gcd(dial, gcd(wheel[1], other[1])))


def places_that_meet(table, wheels):
    """For each of these WHEELS a place such that each two can show so together, None if there are none."""
    begun = [((), [list(range(wheel[2])) for wheel in wheels])]
    while begun:
        row, spots = begun.pop()
        if len(row) == len(wheels):
            return row
        wheel, further = wheels[len(row)], wheels[len(row) + 1:]
        told = []
        for place in spots[0]:
            # What fits no place taken is struck out at once, so a dead end is seen early.
            left = [
                [spot for spot in known if can_at(table, wheel, place, other, spot)]
                for other, known in zip(further, spots[1:])
            ]
            if all([len(known) > 0 for known in left]):
                told.append(((*row, place), left))
        begun.extend(told[::-1])
    return None


def can_meet(mill, some):
    """Whether these WHEELS show together at some tick of some SETTING."""
    return a_choice(mill, some) is not None


def a_choice(mill, some):
    """A CHOICE in which these WHEELS show together in some SETTING, None if there is none."""
    wheels = wheels_called(mill, some)
    places = places_that_meet(need_table(mill), wheels)
    if places is None:
        return None
    return tuple([(wheel[0], place) for wheel, place in zip(wheels, places)])


def is_place(thing, wheel):
    """Whether thing is a pair of this WHEEL's name and a place in its stretch."""
    if not is_row(thing, 2) or not isinstance(thing[0], str) or thing[0] != wheel[0]:
        return False
    return is_number(thing[1]) and 0 <= thing[1] < wheel[2]


def least_apart(table, wheels, choice):
    """The least pair that shows together in the CHOICE in no SETTING, None if there is none."""
    for at, wheel in enumerate(wheels):
        for more in range(at + 1, len(wheels)):
            if not can_at(table, wheel, choice[at][1], wheels[more], choice[more][1]):
                return (wheel[0], wheels[more][0])
    return None


def is_choice(mill, some, thing):
    """Whether thing is a CHOICE of these WHEELS in which they show together in some SETTING."""
    wheels = wheels_called(mill, some)
    table = need_table(mill)
    if not is_row(thing, len(wheels)):
        return False
    if not all([is_place(pair, wheel) for pair, wheel in zip(thing, wheels)]):
        return False
    return least_apart(table, wheels, thing) is None


def apart_pair(mill, choice):
    """The least pair of WHEELS that show together in the CHOICE in no SETTING, None if there is none."""
    wheels = wheels_called(mill, [name for name, _ in choice])
    return least_apart(need_table(mill), wheels, choice)


def meet_mill(mill, choice, name, names):
    """The MILL with a WHEEL more that begins at each tick at which the CHOICE shows."""
    chosen = wheels_called(mill, [wheel for wheel, _ in choice])
    if name in wheel_names(mill):
        raise Twice(name)
    known = saying_names(mill)
    for word in names:
        if word in known:
            raise Twice(word)
    wheels, sayings = tupled(mill)
    told = []
    for wheel, (_, place), word in zip(chosen, choice, names):
        told.append((word, wheel[0], name, place, wheel[1]))
    return (tuple(sorted([*wheels, (name, 1, 1)])), tuple(sorted([*sayings, *told])))


def as_further(wheel, other):
    """The further SAYING that is kept exactly if these two show together at some tick."""
    # The late is a place of the first one less one of the other one, up to what both rounds share.
    room = wheel[2] + other[2] - 2
    return ("meet", wheel[0], other[0], 1 - other[2], gcd(wheel[1], other[1]), room)


def surely_meet(mill, some):
    """Whether in each SETTING there is a tick at which these WHEELS show together."""
    wheels = wheels_called(mill, some)
    need_table(mill)
    return all([is_covered(mill, (as_further(one, other),)) for one, other in pairs_among(wheels)])


def unmet(mill, some):
    """A SETTING in which these WHEELS never show together, None if there is none."""
    wheels = wheels_called(mill, some)
    need_table(mill)
    for one, other in pairs_among(wheels):
        setting = uncovered(mill, (as_further(one, other),))
        if setting is not None:
            return setting
    return None


def is_unmet(mill, some, thing):
    """Whether thing is a SETTING in which these WHEELS never show together."""
    wheels = wheels_called(mill, some)
    need_table(mill)
    return is_setting(mill, thing) and common_ticks(wheels, thing) == []


def meeting_lots(table, wheels):
    """For each lot of these WHEELS whether they show together at some tick of some SETTING."""
    bits = [1 << place for place in range(len(wheels))]
    does = []
    for lot in range(1 << len(wheels)):
        parts = [does[lot ^ bit] for bit in bits if lot & bit != 0]
        does.append(all(parts) and places_that_meet(table, members(wheels, lot)) is not None)
    return does


def greatest_lots(mill):
    """The ascending list of the sets of WHEELS that can meet, and with no WHEEL more."""
    return greatest_lots_of(wheel_names(mill), meeting_lots(need_table(mill), mill[0]))


def common_ticks(wheels, setting):
    """The ascending list of the CLASSES of the ticks at which these WHEELS show together."""
    begun = begin_table(setting)
    found = [(0, 1)]
    for name, turn, shown in wheels:
        both = []
        for known in found:
            for place in range(shown):
                both.append(common_class(known, class_of(begun[name] + place, turn)))
        found = [told for told in both if told is not None]
    return sorted(found)


def series(mill, setting, some):
    """The ascending list of the CLASSES of the ticks at which these WHEELS show together."""
    return common_ticks(wheels_called(mill, some), setting)


def first_from(mill, setting, some, tick):
    """The first tick from this one on at which these WHEELS show together, None if there is none."""
    found = series(mill, setting, some)
    return min([tick + (late - tick) % dial for late, dial in found], default=None)


def meets_in(mill, setting, some, first, last):
    """At how many ticks from first to last, both counted, these WHEELS show together."""
    found = series(mill, setting, some)
    if last < first:
        return 0
    return sum([(last - late) // dial - (first - 1 - late) // dial for late, dial in found])
