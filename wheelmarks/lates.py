"""CLASSES of lates, and what SAYINGS together tell of each two of their ends."""

from math import gcd

from wheelmarks.errors import NoSetting
from wheelmarks.values import end_names, is_multiple


def class_of(late, dial):
    """The CLASS that has this late and all that differ from it by a multiple of dial."""
    return (late if dial == 0 else late % dial, dial)


def inverse(number, dial):
    """What makes 1, up to dial, multiplied by number; the two have the divisor 1."""
    great, small = number, dial
    times, next_times = 1, 0
    while small != 0:
        quotient = great // small
        great, small = small, great - quotient * small
        times, next_times = next_times, times - quotient * next_times
    return times % dial


def common_class(first, second):
    """The CLASS of the numbers that both CLASSES have, None if there are none."""
    late, dial = first
    goal, other = second
    divisor = gcd(dial, other)
    if not is_multiple(goal - late, divisor):
        return None
    # If one CLASS lies in the other one, nothing need be reckoned.
    if divisor == other:
        return first
    if divisor == dial:
        return second
    left = other // divisor
    times = (goal - late) // divisor * inverse(dial // divisor, left) % left
    return class_of(late + dial * times, dial * left)


def class_sum(first, second):
    """The CLASS of all sums of a number of the one and a number of the other."""
    return class_of(first[0] + second[0], gcd(first[1], second[1]))


def narrow(table, one, other, told):
    """Puts what is told of these two into the table, too; whether it goes with what is there."""
    both = common_class(table[one, other], told)
    if both is None:
        return False
    table[one, other] = both
    table[other, one] = class_of(-both[0], both[1])
    return True


def told_one_by_one(mill):
    """The table of what the SAYINGS tell of their own two ends; None if two go not together."""
    ends = end_names(mill)
    table = {(one, other): (0, 0 if one == other else 1) for one in ends for other in ends}
    for _, one, other, late, dial in mill[1]:
        if not narrow(table, one, other, class_of(late, dial)):
            return None
    return table


def sure_table(mill):
    """By each pair (one, other) of the crank and WHEELS the CLASS of other's lates behind one.

    None if the MILL has no SETTING.
    """
    table = told_one_by_one(mill)
    if table is None:
        return None
    ends = end_names(mill)
    # Once through the ends, as for shortest WAYS, is enough: for each prime by itself a WAY
    # tells as much as its worst step does, and several WAYS as much as the best of them.
    # Of a bad RING two ends are left at last, and what is told of these does not go together.
    for middle in ends:
        for one in ends:
            for other in ends:
                if one < other and middle not in (one, other):
                    told = class_sum(table[one, middle], table[middle, other])
                    if not narrow(table, one, other, told):
                        return None
    return table


def need_table(mill):
    """As sure_table, but that it raises NoSetting if there is no SETTING."""
    table = sure_table(mill)
    if table is None:
        raise NoSetting()
    return table


def told_too(ends, table, one, other, told):
    """The table of what is sure if this CLASS of other's lates behind one is told, too.

    None if what is sure already does not go with it. The table handed in stays as it is.
    """
    both = common_class(table[one, other], told)
    if both is None:
        return None
    if both == table[one, other]:
        return table
    more = {pair: known for pair, known in table.items()}
    back = class_of(-told[0], told[1])
    # A WAY takes the new step once at most, so no WAY is left out here.
    for start in ends:
        there = class_sum(table[start, one], told)
        again = class_sum(table[start, other], back)
        for goal in ends:
            if start < goal:
                narrow(more, start, goal, class_sum(there, table[other, goal]))
                narrow(more, start, goal, class_sum(again, table[one, goal]))
    return more


def flat(table):
    """The table of the same SAYINGS with 0 for each late, which MOVES keep."""
    return {pair: (0, known[1]) for pair, known in table.items()}
