"""Two MILLS joined at their common WHEELS, and what some WHEELS of one MILL tell of it."""

from wheelmarks.errors import Twice, Unfit
from wheelmarks.lates import need_table, sure_table
from wheelmarks.lots import pairs_among
from wheelmarks.rings import bad_ring, can_be_kept, is_bad_ring
from wheelmarks.seen import nth_name
from wheelmarks.sures import hang_together, sure_among
from wheelmarks.values import (
    end_names,
    need_end,
    need_wheel,
    tupled,
    wheel_names,
    wheels_called,
)


def both_lots(ones, others):
    """The WHEELS, or SAYINGS, of both, each once; raises Twice for the least name that unlike ones have."""
    known = {thing[0]: thing for thing in others}
    for thing in ones:
        if thing[0] in known and known[thing[0]] != thing:
            raise Twice(thing[0])
    return tuple(sorted(set([*ones, *others])))


def joined(one, other):
    """The MILL with all WHEELS and SAYINGS of both, each once."""
    wheels, sayings = tupled(one)
    more, further = tupled(other)
    return (both_lots(wheels, more), both_lots(sayings, further))


def common_wheels(one, other):
    """The set of the WHEELS that both MILLS have."""
    joined(one, other)
    known = wheel_names(other)
    return tuple([name for name in wheel_names(one) if name in known])


def joined_kept(one, other):
    """The joined MILL of two that have a SETTING each."""
    need_table(one)
    need_table(other)
    return joined(one, other)


def agree(one, other):
    """Whether the joined MILL has a SETTING."""
    return can_be_kept(joined_kept(one, other))


def clash_ring(one, other):
    """A RING of the joined MILL that is bad, None if they agree."""
    return bad_ring(joined_kept(one, other))


def is_clash_ring(one, other, thing):
    """Whether thing is a RING of the joined MILL that is bad."""
    return is_bad_ring(joined_kept(one, other), thing)


def agreed_table(one, other):
    """What is sure in the joined MILL; raises Unfit if they do not agree."""
    table = sure_table(joined_kept(one, other))
    if table is None:
        raise Unfit()
    return table


def sure_across(one, other, near, far):
    """The CLASS of how late far, of the other MILL, is behind near, of the one, in the joined MILL."""
    need_end(one, near)
    need_end(other, far)
    return agreed_table(one, other)[near, far]


def told_more(one, other):
    """What is sure of two ends of the one in the joined MILL, where it is not the same as in the one alone."""
    table = agreed_table(one, other)
    alone = need_table(one)
    pairs = [pair for pair in pairs_among(end_names(one)) if table[pair] != alone[pair]]
    return tuple([(near, far, *table[near, far]) for near, far in pairs])


def letter(mill, some):
    """What is sure of each two of these WHEELS, the crank among them, up to more than 1."""
    wheels_called(mill, some)
    return sure_among(need_table(mill), ["", *some])


def mill_by(mill, some):
    """The MILL of these WHEELS with what the letter tells as SAYINGS."""
    told = letter(mill, some)
    sayings = [(nth_name(place), *quadruple) for place, quadruple in enumerate(told)]
    return (tuple(wheels_called(tupled(mill), some)), tuple(sorted(sayings)))


def split_at(mill, some):
    """The set of the sets of other WHEELS between which no SAYING is left without these and the crank."""
    wheels_called(mill, some)
    wheels = [wheel for wheel in mill[0] if wheel[0] not in some]
    left = wheel_names((wheels, []))
    sayings = [saying for saying in mill[1] if saying[1] in left and saying[2] in left]
    # The crank hangs together with none of them then.
    return tuple([lot for lot in hang_together((wheels, sayings)) if lot != ("",)])


def bridged(mill, name):
    """The pairs of others of which something is sure, but nothing without the SAYINGS of this WHEEL."""
    need_wheel(mill, name)
    table = need_table(mill)
    sayings = [saying for saying in mill[1] if name not in (saying[1], saying[2])]
    without = sure_table((mill[0], sayings))
    others = [end for end in end_names(mill) if end != name]
    pairs = pairs_among(others)
    return tuple([pair for pair in pairs if table[pair][1] != 1 and without[pair][1] == 1])


def is_bridge(mill, name):
    """Whether there are two of which something is sure by the SAYINGS of this WHEEL alone."""
    return bridged(mill, name) != ()
