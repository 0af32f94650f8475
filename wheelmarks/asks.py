"""ASKS: how late a WHEEL is behind another one, and what is sure when it is answered."""

from math import gcd

from wheelmarks.errors import Twice, Unfit
from wheelmarks.lates import class_of, flat, need_table, told_too
from wheelmarks.laying import lay, lay_late, moved
from wheelmarks.lots import fewest_lot, least_lots, members
from wheelmarks.mills import is_setting
from wheelmarks.sures import late_in
from wheelmarks.values import end_names, is_multiple, is_number, is_row, need_end, saying_names, tupled


def is_ask(mill, thing):
    """Whether thing is an ASK of the MILL."""
    if not is_row(thing, 3):
        return False
    one, other, dial = thing
    ends = end_names(mill)
    if one == other or one not in ends or other not in ends:
        return False
    return is_number(dial) and dial >= 0


def need_asks(mill, asks):
    for one, other, _ in asks:
        need_end(mill, one)
        need_end(mill, other)


def answers(mill, ask):
    """The CLASS of all answers to an ASK."""
    need_asks(mill, [ask])
    one, other, dial = ask
    late, sure = need_table(mill)[one, other]
    return class_of(late, gcd(sure, dial))


def many_left(table, ask):
    """How many unlike answers an ASK has by what is sure, None if there is no end of them."""
    one, other, dial = ask
    sure = table[one, other][1]
    if is_multiple(sure, dial):
        return 1
    return None if dial == 0 else dial // gcd(sure, dial)


def how_many_answers(mill, ask):
    """How many unlike answers there are, None if there is no end of them."""
    need_asks(mill, [ask])
    return many_left(need_table(mill), ask)


def tells_new(mill, ask):
    """Whether an ASK has two or more unlike answers."""
    return how_many_answers(mill, ask) != 1


def left_by(mill, ask, late, name):
    """The MILL with this answer to an ASK as a SAYING more."""
    known, sure = answers(mill, ask)
    if name in saying_names(mill):
        raise Twice(name)
    if not is_multiple(late - known, sure):
        raise Unfit()
    wheels, sayings = tupled(mill)
    one, other, dial = ask
    return (wheels, tuple(sorted([*sayings, (name, one, other, late, dial)])))


def answered(ends, level, ask):
    """What is sure when an ASK is answered, too; level has late 0 for all."""
    # Whatever is answered, up to what dials all is sure is the same: so the answer may be 0.
    one, other, dial = ask
    return told_too(ends, level, one, other, (0, dial))


def level_by(mill, asks):
    """What is sure when all asks are answered, with 0 for each late."""
    level = flat(need_table(mill))
    for ask in asks:
        level = answered(end_names(mill), level, ask)
    return level


def rows_of_answers(mill, asks):
    """How many unlike rows of answers there can be, None if there is no end of them."""
    need_asks(mill, asks)
    level = flat(need_table(mill))
    rows = 1
    for ask in asks:
        many = many_left(level, ask)
        if many is None:
            return None
        rows = rows * many
        level = answered(end_names(mill), level, ask)
    return rows


def is_reached(mill, asks, goal):
    return many_left(level_by(mill, asks), goal) == 1


def comes_to(mill, asks, goal):
    """Whether the goal has one answer alone when asks are answered."""
    need_asks(mill, [*asks, goal])
    return is_reached(mill, asks, goal)


def unlike_after(mill, asks, goal):
    """Two SETTINGS that answer all asks alike, the goal not; None if asks come to the goal."""
    need_asks(mill, [*asks, goal])
    level = level_by(mill, asks)
    if many_left(level, goal) == 1:
        return None
    ends = end_names(mill)
    one, other, _ = goal
    first = lay(ends, need_table(mill), {})
    # A MOVE that leaves what was asked alike, but not the goal.
    move = lay_late(ends, level, one, other, level[one, other][1])
    return (first, moved(first, move, 1))


def are_alike(first, second, ask):
    """Whether two SETTINGS answer an ASK alike."""
    one, other, dial = ask
    return is_multiple(late_in(second, one, other) - late_in(first, one, other), dial)


def is_unlike_after(mill, asks, goal, thing):
    """Whether thing is a pair of SETTINGS that answer all asks alike, the goal not."""
    need_asks(mill, [*asks, goal])
    need_table(mill)
    if not is_row(thing, 2) or not all([is_setting(mill, setting) for setting in thing]):
        return False
    first, second = thing
    if not all([are_alike(first, second, ask) for ask in asks]):
        return False
    return not are_alike(first, second, goal)


def fewest_asks(mill, asks, goal):
    """The least set of places of asks that alone come to the goal, None if all do not."""
    need_asks(mill, [*asks, goal])
    does = [is_reached(mill, members(asks, lot), goal) for lot in range(1 << len(asks))]
    return fewest_lot(least_lots(list(range(len(asks))), does))


def is_fewer(many, than):
    """Whether so many answers are fewer than others, None being no end of them."""
    return many is not None and (than is None or many < than)


def best_ask(mill, asks, goal):
    """The place of the ASK behind which, alone, the goal has the fewest answers; None if none helps."""
    need_asks(mill, [*asks, goal])
    fewest = many_left(need_table(mill), goal)
    best = None
    for place, ask in enumerate(asks):
        many = many_left(level_by(mill, [ask]), goal)
        if is_fewer(many, fewest):
            fewest, best = many, place
    return best


def needless_asks(mill, asks):
    """The set of the places of those that have one answer alone when all others are answered."""
    need_asks(mill, asks)
    need_table(mill)
    places = list(range(len(asks)))
    return tuple([
        place for place in places if is_reached(mill, [asks[at] for at in places if at != place], asks[place])
    ])
