"""Lots of things: sets of some of several, each a number with a bit for each of those in it."""

from math import lcm


def members(things, lot):
    """The tuple of those of things that are in the lot, in their order."""
    return tuple([thing for place, thing in enumerate(things) if lot >> place & 1 == 1])


def all_lots(things):
    """The list of all sets of some of these things, the place of each being its lot."""
    return [members(things, lot) for lot in range(1 << len(things))]


def pairs_among(things):
    """The pairs of two of these things, the one ahead first."""
    return [(one, other) for place, one in enumerate(things) for other in things[place + 1:]]


def least_lots(things, does):
    """The ascending list of the sets of things that do, and no part of which does.

    does has True or False for each lot; what does goes on to do with more in it.
    """
    bits = [1 << place for place in range(len(things))]
    found = []
    for lot in range(len(does)):
        if does[lot] and not any([does[lot ^ bit] for bit in bits if lot & bit != 0]):
            found.append(members(things, lot))
    return sorted(found)


def greatest_lots_of(things, does):
    """The ascending list of the sets of things that do, and with no thing more do.

    does has True or False for each lot; what does goes on to do with less in it.
    """
    bits = [1 << place for place in range(len(things))]
    found = []
    for lot in range(len(does)):
        if does[lot] and not any([does[lot | bit] for bit in bits if lot & bit == 0]):
            found.append(members(things, lot))
    return sorted(found)


def fewest_lot(lots):
    """The one with the fewest members, the least by comparison of several; None of none."""
    # Lots come ascending, and of equal lengths the first is told.
    return min(lots, key=len, default=None)


def fewest_to_reach(numbers, goal):
    """The places of the fewest numbers whose least multiple is goal, None if that of all is not.

    Of several such sets the least one; each number divides the goal.
    """
    behind = [1]
    for number in reversed(list(numbers)):
        behind.append(lcm(number, behind[-1]))
    behind = behind[::-1]
    if behind[0] != goal:
        return None
    many = 0
    while True:
        found = so_many_to_reach(numbers, behind, goal, many)
        if found is not None:
            return found
        many += 1


def so_many_to_reach(numbers, behind, goal, many):
    """As fewest_to_reach, of just so many; behind has what all from each place on come to."""
    begun = [((), 1)]
    while begun:
        row, reached = begun.pop()
        if len(row) == many:
            if reached == goal:
                return row
            continue
        further = []
        for place in range(row[-1] + 1 if row else 0, len(numbers)):
            # What this one and all behind it lack, none of the later places can bring.
            if lcm(reached, behind[place]) != goal:
                break
            # One that adds nothing could be left out, and the set would be smaller.
            if lcm(reached, numbers[place]) != reached:
                further.append(((*row, place), lcm(reached, numbers[place])))
        begun.extend(further[::-1])
    return None
