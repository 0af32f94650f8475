"""SAYINGS that are wrong: which ones to strike, and whether one late written wrong is seen and told."""

from math import gcd

from wheelmarks.lates import class_of, need_table, sure_table
from wheelmarks.lots import pairs_among
from wheelmarks.rings import can_be_kept, kept_lots
from wheelmarks.values import (
    all_but,
    is_multiple,
    is_number,
    is_row,
    is_set_of,
    saying_called,
    saying_names,
)


def strikes(mill):
    """The ascending list of the sets of SAYINGS to strike so that the others can be kept."""
    names = saying_names(mill)
    return sorted([tuple([name for name in names if name not in lot]) for lot in kept_lots(mill)])


def is_strike(mill, thing):
    """Whether thing is a set of SAYINGS to strike, none of which can stay."""
    if not is_set_of(thing, saying_names(mill)) or not can_be_kept(all_but(mill, thing)):
        return False
    return not any([can_be_kept(all_but(mill, [other for other in thing if other != name])) for name in thing])


def keep_most(mill):
    """Of the sets of SAYINGS that can be kept those with the most, of these the least."""
    lots = kept_lots(mill)
    most = max([len(lot) for lot in lots])
    return min([lot for lot in lots if len(lot) == most])


def blamed(mill):
    """The set of the SAYINGS that are in some strike."""
    struck = strikes(mill)
    return tuple([name for name in saying_names(mill) if any([name in strike for strike in struck])])


def in_all_bad(mill):
    """The set of the SAYINGS without each of which, that one alone, the others can be kept."""
    if can_be_kept(mill):
        return ()
    return mending(mill)


def mending(mill):
    """The set of the SAYINGS without each of which, that one alone, there is a SETTING."""
    return tuple([name for name in saying_names(mill) if can_be_kept(all_but(mill, [name]))])


def mended_late(mill, name):
    """The CLASS of the lates with which, in the place of its own, there is a SETTING; None if there are none."""
    _, one, other, _, dial = saying_called(mill, name)
    table = sure_table(all_but(mill, [name]))
    if table is None:
        return None
    late, sure = table[one, other]
    return class_of(late, gcd(sure, dial))


def blind_step(mill, name):
    """The number by whose multiples the late can be wrong without being seen."""
    saying_called(mill, name)
    need_table(mill)
    return mended_late(mill, name)[1]


def is_seen(mill, name, off):
    """Whether it is seen if this late is wrong by so much."""
    return not is_multiple(off, blind_step(mill, name))


def written_wrong(mill, name, off):
    """The MILL with the late of this SAYING more by off."""
    _, one, other, late, dial = saying_called(mill, name)
    wrong = (name, one, other, late + off, dial)
    return (mill[0], [wrong if saying[0] == name else saying for saying in mill[1]])


def could_be(mill, name, off):
    """The set of the SAYINGS that could be the wrong one if this late is wrong by so much, () if it is not seen."""
    if not is_seen(mill, name, off):
        return ()
    return mending(written_wrong(mill, name, off))


def are_twins(mill, first, second):
    # A late wrong by the step that is blind without the other one is seen with it just if the steps differ;
    # and if they do, so do those of the other one without the first.
    return blind_step(mill, first) != blind_step(all_but(mill, [second]), first)


def twins(mill):
    """The ascending list of the pairs of which either could be wrong if the other one is."""
    need_table(mill)
    return [(first, second) for first, second in pairs_among(saying_names(mill)) if are_twins(mill, first, second)]


def all_told(mill):
    """Whether it is told which late is wrong, whenever just one is and it is seen."""
    return twins(mill) == []


def need_two(mill, first, second):
    saying_called(mill, first)
    saying_called(mill, second)
    need_table(mill)


def twin_paper(mill, first, second):
    """By how much the first is wrong, which is seen, and the second, which mends it; None if they are no twins."""
    need_two(mill, first, second)
    if first == second or not are_twins(mill, first, second):
        return None
    off = blind_step(all_but(mill, [second]), first)
    mended = mended_late(written_wrong(mill, first, off), second)[0]
    return (off, mended - saying_called(mill, second)[3])


def is_twin_paper(mill, first, second, thing):
    """Whether thing is by how much the first is wrong, which is seen, and the second, which mends it."""
    need_two(mill, first, second)
    if first == second or not is_row(thing, 2) or not all([is_number(off) for off in thing]):
        return False
    wrong = written_wrong(mill, first, thing[0])
    return not can_be_kept(wrong) and can_be_kept(written_wrong(wrong, second, thing[1]))
