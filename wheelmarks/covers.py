"""Whether each SETTING keeps at least one of several further SAYINGS, and which part of all does."""

from math import gcd

from wheelmarks.lates import need_table, sure_table
from wheelmarks.laying import all_moves, lay, moved
from wheelmarks.lots import fewest_lot, least_lots
from wheelmarks.mills import begin_table, how_far_off, is_saying, is_setting
from wheelmarks.shares import bare_parts, kept_parts
from wheelmarks.values import ascends, end_names, is_number, is_row, need_end, saying_names


def is_more(mill, thing):
    """Whether thing is an ascending tuple of further SAYINGS of the MILL, each with its room."""
    if not isinstance(thing, tuple) or not all([is_row(further, 6) for further in thing]):
        return False
    ends = {name: True for name in end_names(mill)}
    for further in thing:
        if not is_saying(further[:5], ends) or not is_number(further[5]) or further[5] < 0:
            return False
    known = saying_names(mill)
    names = [further[0] for further in thing]
    return ascends(names) and not any([name in known for name in names])


def need_more(mill, more):
    for further in more:
        need_end(mill, further[1])
        need_end(mill, further[2])


def keeps_further(begun, further):
    """Whether begins, a dict of them by name, keep a further SAYING."""
    far = how_far_off(further[:5], begun)
    # With dial 0 the number may be below 0; else it is from 0 below the dial.
    return 0 <= far <= further[5]


def keeps_none(setting, more):
    begun = begin_table(setting)
    return not any([keeps_further(begun, further) for further in more])


def bare_lots(mill, more):
    """For each lot of more whether some SETTING keeps none of it; None if there is no SETTING."""
    table = sure_table(mill)
    if table is None:
        return None
    return [part != 0 for part in bare_parts(end_names(mill), table, more)[0]]


def covering_lots(mill, more):
    """For each lot of more whether each SETTING keeps at least one of it."""
    bare = bare_lots(mill, more)
    if bare is None:
        return [True] * (1 << len(more))
    return [not left for left in bare]


def is_covered(mill, more):
    """Whether each SETTING keeps at least one of more."""
    need_more(mill, more)
    return covering_lots(mill, more)[-1]


def uncovered(mill, more):
    """A SETTING that keeps none of more, None if there is none."""
    if is_covered(mill, more):
        return None
    ends, table = end_names(mill), need_table(mill)
    home = lay(ends, table, {})
    moves = all_moves(ends, table)
    for numbers in few_steps(len(moves), looks_of(more)):
        setting = gone(home, moves, numbers)
        if keeps_none(setting, more):
            return setting
    return None


def is_uncovered(mill, more, thing):
    """Whether thing is a SETTING that keeps none of more."""
    need_more(mill, more)
    return is_setting(mill, thing) and keeps_none(thing, more)


def looks_of(more):
    looks = 1
    for further in more:
        looks = looks * (further[5] + 2)
    return looks


def few_steps(many, looks):
    """The ascending list of so many numbers each, from 0 on, each and 1 multiplied at most looks."""
    rows = [((), looks)]
    for _ in range(many):
        longer = []
        for row, left in rows:
            # So many times again may the rest come to, rounded down as all are whole.
            longer.extend([((*row, times), left // (times + 1)) for times in range(left)])
        rows = longer
    return [row for row, _ in rows]


def gone(setting, moves, numbers):
    """The SETTING so many steps along each of these MOVES away."""
    reached = tuple([(name, begin) for name, begin in setting])
    for move, times in zip(moves, numbers):
        if times != 0:
            reached = moved(reached, move, times)
    return reached


def few_settings(mill, setting, moves, more):
    """The list of the SETTINGS that lie few steps along these MOVES from this one."""
    need_more(mill, more)
    rows = few_steps(len(moves), looks_of(more))
    return [gone(setting, moves, numbers) for numbers in rows]


def needless(mill, more):
    """The set of those of more without each of which, that one alone, all is covered, too."""
    need_more(mill, more)
    covers = covering_lots(mill, more)
    # Where all of more do not cover, none of these smaller lots does.
    most = len(covers) - 1
    return tuple([further[0] for place, further in enumerate(more) if covers[most - (1 << place)]])


def all_covers(mill, more):
    """The ascending list of the sets of names of more that cover all, with none to spare."""
    need_more(mill, more)
    return least_lots([further[0] for further in more], covering_lots(mill, more))


def fewest_cover(mill, more):
    """The least of the sets of names of more that cover all, None if there is none."""
    return fewest_lot(all_covers(mill, more))


def lowest(top, bottom):
    divisor = gcd(top, bottom)
    return (top // divisor, bottom // divisor)


def kept_share(mill, more):
    """The share of SETTINGS that keep all of more, a fraction in lowest terms."""
    need_more(mill, more)
    parts, whole = kept_parts(end_names(mill), need_table(mill), more)
    return lowest(parts[-1], whole)


def bare_share(mill, more):
    """The share of SETTINGS that keep none of more, a fraction in lowest terms."""
    need_more(mill, more)
    parts, whole = bare_parts(end_names(mill), need_table(mill), more)
    return lowest(parts[-1], whole)
