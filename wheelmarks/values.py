"""Kinds of values that several files ask for, and the parts of a MILL, found or missed."""

from wheelmarks.errors import NoSaying, NoWheel

LETTERS = "abcdefghijklmnopqrstuvwxyz"
LONGEST_NAME = 8


def tupled(value):
    """The value with a tuple in the place of each list, at any depth."""
    if isinstance(value, (list, tuple)):
        return tuple([tupled(part) for part in value])
    return value


def is_number(thing):
    return isinstance(thing, int) and not isinstance(thing, bool)


def is_name(thing):
    if not isinstance(thing, str) or not 1 <= len(thing) <= LONGEST_NAME:
        return False
    return all([letter in LETTERS for letter in thing])


def is_row(thing, length):
    """Whether thing is a tuple of just so many."""
    return isinstance(thing, tuple) and len(thing) == length


def ascends(things):
    """Whether each of them is above the one ahead of it."""
    return all([things[at] < things[at + 1] for at in range(len(things) - 1)])


def is_set_of(thing, names):
    """Whether thing is a set, maybe (), of some of these names."""
    if not isinstance(thing, tuple):
        return False
    return all([isinstance(name, str) and name in names for name in thing]) and ascends(thing)


def is_multiple(number, divisor):
    """Whether the divisor, from 0 on, divides the number."""
    # 0 alone is a multiple of 0, and a remainder by 0 is an error.
    if divisor == 0:
        return number == 0
    return number % divisor == 0


def wheel_names(mill):
    return [wheel[0] for wheel in mill[0]]


def end_names(mill):
    """What a SAYING can be between: the crank and the WHEELS, ascending."""
    return ["", *wheel_names(mill)]


def saying_names(mill):
    return [saying[0] for saying in mill[1]]


def need_wheel(mill, name):
    if name not in wheel_names(mill):
        raise NoWheel(name)


def wheels_called(mill, names):
    """The WHEELS with these names, in the order of the names; raises NoWheel for the first that is none."""
    wheels = {wheel[0]: wheel for wheel in mill[0]}
    for name in names:
        need_wheel(mill, name)
    return [wheels[name] for name in names]


def need_end(mill, name):
    """As need_wheel, but that the crank is let, too."""
    if name not in end_names(mill):
        raise NoWheel(name)


def just_these(mill, names):
    """The MILL with just those of its SAYINGS that have one of these names."""
    return (mill[0], [saying for saying in mill[1] if saying[0] in names])


def all_but(mill, names):
    """The MILL without the SAYINGS that have one of these names."""
    return (mill[0], [saying for saying in mill[1] if saying[0] not in names])


def saying_called(mill, name):
    for saying in mill[1]:
        if saying[0] == name:
            return saying
    raise NoSaying(name)
