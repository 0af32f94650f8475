"""SETTINGS: laid WHEEL by WHEEL, moved from one to another, counted and told by place."""

from math import lcm

from wheelmarks.errors import NoNumber, Unfit
from wheelmarks.lates import need_table
from wheelmarks.laying import ahead_dials, all_moves, lay, moved, open_begins
from wheelmarks.mills import begin_table, is_begins, unkept
from wheelmarks.values import end_names, is_multiple, need_wheel


def least_setting(mill):
    """The SETTING that is laid without begins."""
    return lay(end_names(mill), need_table(mill), {})


def need_wheels(mill, begins):
    for name, _ in begins:
        need_wheel(mill, name)


def least_hinder(table, begins):
    """The least pair of the crank and WHEELS whose begins do not keep what is sure of both."""
    begun = begin_table(begins)
    ends = sorted(begun)
    for place, one in enumerate(ends):
        for other in ends[place + 1:]:
            late, dial = table[one, other]
            if not is_multiple(begun[other] - begun[one] - late, dial):
                return (one, other)
    return None


def setting_with(mill, begins):
    """The SETTING that is laid with these begins."""
    need_wheels(mill, begins)
    table = need_table(mill)
    if least_hinder(table, begins) is not None:
        raise Unfit()
    return lay(end_names(mill), table, begin_table(begins))


def hinders(mill, begins):
    """The least pair whose begins do not keep what is sure of both, None if begins go on."""
    need_wheels(mill, begins)
    return least_hinder(need_table(mill), begins)


def level_mill(mill):
    """The MILL with 0 for each late, whose SETTINGS are the MOVES of this one."""
    wheels, sayings = mill
    return (wheels, [(name, one, other, 0, dial) for name, one, other, _, dial in sayings])


def is_move(mill, thing):
    """Whether thing is a MOVE of the MILL."""
    return is_begins(mill, thing) and unkept(level_mill(mill), thing) == ()


def dials_ahead(mill):
    """For each WHEEL the dial up to which it is sure by the crank and the WHEELS ahead of it."""
    return tuple(ahead_dials(end_names(mill), need_table(mill)))


def moves(mill):
    """The MOVES, one for each WHEEL that is not sure to the tick by those ahead of it."""
    return all_moves(end_names(mill), need_table(mill))


def stepped(setting, some, numbers):
    """The SETTING that lies so many times each of these MOVES away."""
    reached = tuple([(name, begin) for name, begin in setting])
    for move, times in zip(some, numbers):
        reached = moved(reached, move, times)
    return reached


def steps_to(mill, setting, goal):
    """How many times each of moves(mill) leads from the one SETTING to the other one."""
    known = moves(mill)
    dials = dials_ahead(mill)
    reached = setting
    numbers = []
    for place, dial in enumerate(dials):
        if dial != 0:
            # Those behind move WHEELS behind alone, so this one has just one number.
            times = (goal[place][1] - reached[place][1]) // dial
            reached = moved(reached, known[len(numbers)], times)
            numbers.append(times)
    return tuple(numbers)


def common_dial(mill):
    """The least multiple of all dials but 0."""
    dial = 1
    for saying in mill[1]:
        if saying[4] != 0:
            dial = lcm(dial, saying[4])
    return dial


def open_places(mill, number):
    """For each WHEEL how many begins up to this number go with each of those ahead of it."""
    dials = dials_ahead(mill)
    if not is_multiple(number, common_dial(mill)):
        raise Unfit()
    return [1 if dial == 0 else number // dial for dial in dials]


def how_many(mill, number):
    """How many SETTINGS there are up to this number."""
    many = 1
    for places in open_places(mill, number):
        many = many * places
    return many


def nth_up_to(mill, number, place):
    """The SETTING with this place of those up to this number, as BEGINS from 0 below it."""
    counts = open_places(mill, number)
    digits = []
    left = place
    for places in counts[::-1]:
        left, digit = divmod(left, places)
        digits.append(digit)
    # What is left below 0, too, tells that the place is none.
    if left != 0:
        raise NoNumber(place)
    ends = end_names(mill)
    table = up_to(need_table(mill), number)
    laid = {"": 0}
    for end, digit in zip(ends[1:], digits[::-1]):
        late, dial = open_begins(table, laid, end)
        laid[end] = late + digit * dial
    return tuple([(end, laid[end]) for end in ends[1:]])


def up_to(table, number):
    """What is sure where begins that differ by a multiple of this number are the same."""
    level = {}
    for pair, (late, dial) in table.items():
        level[pair] = (late, dial) if dial != 0 else (late % number, number)
    return level
