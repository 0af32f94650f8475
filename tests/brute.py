"""The words of the document gone through one by one, for small MILLS alone."""

import itertools
import math


def ought_number(thing):
    return type(thing) is int


def ought_name(thing):
    return type(thing) is str and len(thing) in range(1, 9) and set(thing) <= set("abcdefghijklmnopqrstuvwxyz")


def ought_rows(thing, length):
    return type(thing) is tuple and all(type(row) is tuple and len(row) == length for row in thing)


def ought_mill(thing):
    if type(thing) is not tuple or len(thing) != 2:
        return False
    if not ought_rows(thing[0], 3) or not ought_rows(thing[1], 5):
        return False
    for name, turn, shown in thing[0]:
        if not (ought_name(name) and ought_number(turn) and ought_number(shown)):
            return False
        if turn < 1 or shown < 1 or shown > turn:
            return False
    names = [wheel[0] for wheel in thing[0]]
    for name, one, other, late, dial in thing[1]:
        if not (ought_name(name) and ought_number(late) and ought_number(dial)) or dial < 0:
            return False
        if not all(type(end) is str and end in ["", *names] for end in (one, other)) or one == other:
            return False
    marks = [saying[0] for saying in thing[1]]
    return names == sorted(set(names)) and marks == sorted(set(marks))


def ought_begins(mill, thing):
    if not ought_rows(thing, 2) or not all(ought_number(pair[1]) for pair in thing):
        return False
    return [repr(pair[0]) for pair in thing] == [repr(wheel[0]) for wheel in mill[0]]


def keeps(begins, saying):
    table = dict(begins)
    table[""] = 0
    _, one, other, late, dial = saying
    far = table[other] - table[one] - late
    return far == 0 if dial == 0 else far % dial == 0


def ought_setting(mill, thing):
    return ought_begins(mill, thing) and all(keeps(thing, saying) for saying in mill[1])


def window(mill):
    """Begins among which there is a SETTING if there is one at all."""
    # WHEELS that dials 0 tie together lie no further apart than all lates added up, and
    # those that nothing ties to the crank can be moved by the least multiple of the dials.
    spread = sum(abs(saying[3]) for saying in mill[1] if saying[4] == 0)
    turn = math.lcm(*[saying[4] for saying in mill[1] if saying[4] != 0])
    return range(-spread, turn + spread)


def some_setting(mill):
    names = [wheel[0] for wheel in mill[0]]
    for begins in itertools.product(window(mill), repeat=len(names)):
        setting = tuple(zip(names, begins))
        if all(keeps(setting, saying) for saying in mill[1]):
            return setting
    return None


def is_told_ring(mill, row):
    """Whether these steps, a tuple of them of unlike SAYINGS, are a RING."""
    ends = {name: (one, other) for name, one, other, _, _ in mill[1]}
    moves = [ends[name] if way == 1 else ends[name][::-1] for name, way in row]
    joined = all(moves[at][0] == moves[at - 1][1] for at in range(len(moves)))
    once = len({goal for _, goal in moves}) == len(moves)
    return joined and once and row[0] == (min(name for name, _ in row), 1)


def every_ring(mill):
    names = [saying[0] for saying in mill[1]]
    found = []
    for many in range(2, len(names) + 1):
        for chosen in itertools.permutations(names, many):
            for ways in itertools.product((1, -1), repeat=many):
                row = tuple(zip(chosen, ways))
                if is_told_ring(mill, row):
                    found.append(row)
    return sorted(found)


def sum_and_divisor(mill, row):
    sayings = {saying[0]: saying for saying in mill[1]}
    total = sum(sayings[name][3] * way for name, way in row)
    return total, math.gcd(*[sayings[name][4] for name, _ in row])


def is_bad(mill, row):
    total, divisor = sum_and_divisor(mill, row)
    return total != 0 if divisor == 0 else total % divisor != 0


def parts_of(names):
    """All sets of some of them."""
    return [part for many in range(len(names) + 1) for part in itertools.combinations(names, many)]


def small_mills(random, many, wheels, sayings, dials, lates):
    """So many MILLS, by a random source with a seed."""
    names = "abcdefgh"[:wheels]
    for _ in range(many):
        told = []
        for name in "klmnopqrstuv"[:sayings]:
            one, other = random.sample(["", *names], 2)
            told.append((name, one, other, random.choice(lates), random.choice(dials)))
        yield tuple((name, 6, 1) for name in names), tuple(told)


def kept_mills(random, many, wheels, sayings, dials, rounds=((6, 1),)):
    """So many pairs of a MILL that has a SETTING, and one of its SETTINGS."""
    names = "abcdefgh"[:wheels]
    for _ in range(many):
        begins = {"": 0, **{name: random.randrange(-3, 4) for name in names}}
        told = []
        for name in "klmnopqrstuv"[:sayings]:
            one, other = random.sample(["", *names], 2)
            dial = random.choice(dials)
            late = begins[other] - begins[one] + random.randrange(-1, 2) * dial
            told.append((name, one, other, late, dial))
        turned = tuple((name, *random.choice(rounds)) for name in names)
        yield (turned, tuple(told)), tuple((name, begins[name]) for name in names)


def turn_of(mill, *numbers):
    """What all dials but 0 and these numbers divide, and more than what one of the dials tells."""
    turn = math.lcm(*[saying[4] for saying in mill[1] if saying[4] != 0], *numbers)
    return 2 * turn


def told_up_to(late, begun, number):
    """Whether begins, a dict of them, keep (one, other, late, dial), dial 0 being this number."""
    one, other, far, dial = late
    return (begun[other] - begun[one] - far) % (dial or number) == 0


def begins_up_to(mill, number):
    """All BEGINS from 0 below the number that keep the SAYINGS up to it, each a dict with the crank."""
    names = [wheel[0] for wheel in mill[0]]
    found = [{"": 0}]
    for name in names:
        found = [{**begun, name: begin} for begun in found for begin in range(number)]
        told = [saying[1:] for saying in mill[1] if {saying[1], saying[2]} <= set(found[0])] if found else []
        found = [begun for begun in found if all(told_up_to(late, begun, number) for late in told)]
    return found


def as_begins(begun):
    return tuple(sorted((name, begin) for name, begin in begun.items() if name))


def sign_at(wheel, begin, tick):
    """The place of this tick in the stretch in which the WHEEL shows, None if it does not show."""
    place = (tick - begin) % wheel[1]
    return place if place < wheel[2] else None


def just(mill, names):
    """The MILL with these of its SAYINGS alone."""
    return mill[0], tuple(saying for saying in mill[1] if saying[0] in names)


def fine_turn(mill, *numbers):
    """As turn_of, and where a dial is 0 more than all lates together, so that up to it is to the tick."""
    spread = sum(abs(saying[3]) for saying in mill[1]) if any(saying[4] == 0 for saying in mill[1]) else 0
    turn = turn_of(mill, *numbers)
    return turn * (2 * spread // turn + 1)


def kept_up_to(mill, number):
    """Whether some BEGINS up to the number keep all SAYINGS."""
    return begins_up_to(mill, number) != []


def lates_up_to(every, one, other, number):
    """All lates of other behind one, up to the number."""
    return {(begun[other] - begun[one]) % number for begun in every}


def class_up_to(told, number):
    """All numbers of a CLASS, up to the number; with another dial than 0 this must divide it."""
    late, dial = told
    if dial == 0:
        return {late % number}
    assert number % dial == 0 and late in range(dial)
    return set(range(late, number, dial))


def least_parts(parts):
    """Those of several sets in which no other one lies."""
    return [part for part in parts if not any(set(other) < set(part) for other in parts)]


def greatest_parts(parts):
    """Those of several sets that lie in no other one."""
    return [part for part in parts if not any(set(part) < set(other) for other in parts)]


def fewest_part(parts):
    """The one with the fewest members, the least of several; None of none."""
    return min(parts, key=lambda part: (len(part), part), default=None)
