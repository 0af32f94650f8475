"""Which SAYINGS can be left out, and how small their dials can be."""

from math import gcd

from wheelmarks.covers import uncovered
from wheelmarks.errors import Unfit
from wheelmarks.lates import need_table, sure_table
from wheelmarks.lots import fewest_lot, least_lots, members
from wheelmarks.mills import begin_table, how_far_off, is_setting
from wheelmarks.values import (
    all_but,
    is_multiple,
    is_set_of,
    just_these,
    saying_called,
    saying_names,
    tupled,
    wheel_names,
)


def tells(table, saying):
    """Whether what is sure by the table has this SAYING in it."""
    _, one, other, late, dial = saying
    known, sure = table[one, other]
    return is_multiple(sure, dial) and is_multiple(late - known, dial)


def is_needless(mill, saying):
    return tells(sure_table(all_but(mill, [saying[0]])), saying)


def needless_sayings(mill):
    """The set of the SAYINGS without each of which the MILL is the same."""
    need_table(mill)
    return tuple([saying[0] for saying in mill[1] if is_needless(mill, saying)])


def is_lean(mill):
    """Whether no SAYING is needless."""
    return needless_sayings(mill) == ()


def loose_setting(mill, name):
    """A SETTING without this SAYING which does not keep it, None if it is needless."""
    saying = saying_called(mill, name)
    need_table(mill)
    return uncovered(all_but(mill, [name]), [(*saying, 0)])


def is_loose_setting(mill, name, thing):
    """Whether thing is a SETTING without this SAYING which does not keep it."""
    saying = saying_called(mill, name)
    need_table(mill)
    if not is_setting(all_but(mill, [name]), thing):
        return False
    return how_far_off(saying, begin_table(thing)) != 0


def are_enough(mill, sayings):
    """Whether the MILL with these of its SAYINGS alone is the same."""
    table = sure_table((mill[0], sayings))
    return all([tells(table, saying) for saying in mill[1]])


def all_lean(mill):
    """The ascending list of the sets of SAYINGS that are enough, and no part of which is."""
    need_table(mill)
    does = [are_enough(mill, members(mill[1], lot)) for lot in range(1 << len(mill[1]))]
    return least_lots(saying_names(mill), does)


def fewest_sayings(mill):
    """The least of the sets of SAYINGS that are enough."""
    return fewest_lot(all_lean(mill))


def is_lean_set(mill, thing):
    """Whether thing is a set of SAYINGS that are enough, and no part of which is."""
    need_table(mill)
    if not is_set_of(thing, saying_names(mill)):
        return False
    chosen = just_these(mill, thing)[1]
    if not are_enough(mill, chosen):
        return False
    return not any([
        are_enough(mill, [saying for saying in chosen if saying[0] != name]) for name in thing
    ])


def needed_part(dial, known):
    """The least dial that with the known one tells all that dial does, 0 if just 0 does."""
    if known == 0:
        return 1
    if dial == 0:
        return 0
    # Of each prime all or nothing is needed: all if the known dial has less of it.
    lacking = dial // gcd(dial, known)
    free = dial
    common = gcd(free, lacking)
    while common != 1:
        free = free // common
        common = gcd(free, lacking)
    return dial // free


def least_dial(mill, saying):
    table = sure_table(all_but(mill, [saying[0]]))
    return needed_part(saying[4], table[saying[1], saying[2]][1])


def smaller_dial(mill, name):
    """The least dial from 1 on with which this SAYING leaves the MILL the same, 0 if there is none."""
    saying = saying_called(mill, name)
    need_table(mill)
    return least_dial(mill, saying)


def least_dials(mill):
    """The MILL with the smaller dial for one SAYING behind another, without those that get 1."""
    need_table(mill)
    wheels, sayings = tupled(mill)
    kept = []
    for place, saying in enumerate(sayings):
        name, one, other, late, _ = saying
        dial = least_dial((wheels, [*kept, *sayings[place:]]), saying)
        if dial == 0:
            kept.append(saying)
        elif dial != 1:
            kept.append((name, one, other, late % dial, dial))
    return (wheels, tuple(kept))


def need_same_wheels(one, other):
    if wheel_names(one) != wheel_names(other):
        raise Unfit()


def same_mills(one, other):
    """Whether two MILLS have the same SETTINGS."""
    need_same_wheels(one, other)
    return sure_table(one) == sure_table(other)


def own_setting(one, other):
    """A SETTING of the one MILL that is none of the other one, None if there is none."""
    # If the other one has no SETTING, none of the one keeps all its SAYINGS.
    for saying in other[1]:
        setting = uncovered(one, [(*saying, 0)])
        if setting is not None:
            return setting
    return None


def unlike_by(one, other):
    """A SETTING of just one of both MILLS, None if they are the same."""
    need_same_wheels(one, other)
    setting = own_setting(one, other)
    return own_setting(other, one) if setting is None else setting


def is_unlike_by(one, other, thing):
    """Whether thing is a SETTING of just one of both MILLS."""
    need_same_wheels(one, other)
    return is_setting(one, thing) != is_setting(other, thing)
