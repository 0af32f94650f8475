"""RINGS of SAYINGS: whether a MILL can be kept, and a paper if it can not."""

from math import gcd

from wheelmarks.lates import sure_table
from wheelmarks.values import end_names, is_multiple, is_number, is_row, saying_called, saying_names


def steps_away(mill):
    """For the crank and each WHEEL the pairs of a step from it and where it leads to."""
    away = {end: [] for end in end_names(mill)}
    for name, one, other, _, _ in mill[1]:
        away[one].append(((name, 1), other))
        away[other].append(((name, -1), one))
    return away


def step_ends(sayings, step):
    """Where the step comes from, and where it leads to; sayings is a dict of SAYINGS by name."""
    _, one, other, _, _ = sayings[step[0]]
    return (one, other) if step[1] == 1 else (other, one)


def is_step(sayings, thing):
    """Whether thing is a step of one of these SAYINGS, a dict of them by name."""
    if not is_row(thing, 2) or not isinstance(thing[0], str) or thing[0] not in sayings:
        return False
    return is_number(thing[1]) and thing[1] in (1, -1)


def is_ring(mill, thing):
    """Whether thing is a RING of the MILL."""
    sayings = {saying[0]: saying for saying in mill[1]}
    if not isinstance(thing, tuple) or len(thing) < 2:
        return False
    if not all([is_step(sayings, step) for step in thing]):
        return False
    names = [name for name, _ in thing]
    if thing[0] != (min(names), 1) or len(set(names)) != len(names):
        return False
    starts = [step_ends(sayings, step)[0] for step in thing]
    goals = [step_ends(sayings, step)[1] for step in thing]
    return goals == starts[1:] + starts[:1] and len(set(goals)) == len(goals)


def rings_first_by(away, saying):
    """All RINGS whose first step is that of this SAYING, in no order; away as by steps_away."""
    name, home, other, _, _ = saying
    found = []
    begun = [(((name, 1),), (other,))]
    while begun:
        row, been = begun.pop()
        for step, end in away[been[-1]]:
            # The least name stands first, so lesser ones are for other RINGS.
            if step[0] <= name:
                continue
            if end == home:
                found.append((*row, step))
            elif end not in been:
                begun.append(((*row, step), (*been, end)))
    return found


def all_rings(mill):
    """The ascending list of all RINGS."""
    away = steps_away(mill)
    found = []
    for saying in mill[1]:
        found.extend(rings_first_by(away, saying))
    return sorted(found)


def rings_of(mill, saying):
    """The ascending list of the RINGS with a step of this SAYING."""
    saying_called(mill, saying)
    return [ring for ring in all_rings(mill) if saying in [name for name, _ in ring]]


def ring_sum(mill, ring):
    """The sum of a RING or a WAY, by the lates of this MILL."""
    return sum([way * saying_called(mill, name)[3] for name, way in ring])


def ring_divisor(mill, ring):
    """The divisor of a RING or a WAY, by the dials of this MILL."""
    divisor = 0
    for name, _ in ring:
        divisor = gcd(divisor, saying_called(mill, name)[4])
    return divisor


def is_good(mill, ring):
    return is_multiple(ring_sum(mill, ring), ring_divisor(mill, ring))


def can_be_kept(mill):
    """Whether there is a SETTING."""
    return sure_table(mill) is not None


def bad_rings(mill):
    """The ascending list of the bad RINGS."""
    return [ring for ring in all_rings(mill) if not is_good(mill, ring)]


def bad_ring(mill):
    """A bad RING, None if there is none."""
    if can_be_kept(mill):
        return None
    return least_bad(mill)


def is_bad_ring(mill, thing):
    """Whether thing is a bad RING of the MILL."""
    return is_ring(mill, thing) and not is_good(mill, thing)


def least_bad(mill):
    """Of the bad RINGS with the fewest steps the least, None if there is none."""
    # The list ascends, and of equal lengths the first is told.
    return min(bad_rings(mill), key=len, default=None)


def has_all_of_one(lot, bad):
    """Whether the lot, a number of bits, has all bits of one of the numbers of bad."""
    return any([lot & marks == marks for marks in bad])


def kept_lots(mill):
    """The ascending list of the sets of SAYINGS that can be kept, and with no SAYING more."""
    names = saying_names(mill)
    bits = {name: 1 << place for place, name in enumerate(names)}
    bad = [sum([bits[name] for name, _ in ring]) for ring in bad_rings(mill)]
    kept = [lot for lot in range(1 << len(names)) if not has_all_of_one(lot, bad)]
    known = set(kept)
    found = []
    for lot in kept:
        more = [lot | bit for bit in bits.values() if lot & bit == 0]
        if not any([greater in known for greater in more]):
            found.append(tuple([name for name in names if lot & bits[name] != 0]))
    return sorted(found)
