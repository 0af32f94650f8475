"""How many hands are needed to read all marks as they show, and for ever."""

from wheelmarks.lates import need_table, sure_table
from wheelmarks.lots import all_lots, fewest_lot
from wheelmarks.meets import a_choice, meeting_lots
from wheelmarks.mills import begin_table
from wheelmarks.rules import is_broken_at, parted, tick_mill
from wheelmarks.settings import least_setting
from wheelmarks.values import ascends, is_set_of, need_end, tupled, wheel_names, wheels_called


def all_crowds(mill, table):
    """All sets of WHEELS that show together at one tick of some SETTING, by what is sure."""
    does = meeting_lots(table, mill[0])
    return [crowd for crowd, so in zip(all_lots(wheel_names(mill)), does) if so]


def held_table(mill, setting):
    """What is sure if the SETTING is this one; raises NoSetting if the MILL has none."""
    need_table(mill)
    begun = begin_table(setting)
    return {(one, other): (begun[other] - begun[one], 0) for one in begun for other in begun}


def greatest_crowd(mill, table):
    return max([len(crowd) for crowd in all_crowds(mill, table)])


def hands_now(mill, setting):
    """How many WHEELS show at one tick of this SETTING at the most."""
    return greatest_crowd(mill, held_table(mill, setting))


def most_at_once(mill):
    """How many WHEELS show at one tick of some SETTING at the most."""
    return greatest_crowd(mill, need_table(mill))


def crowds(mill, many):
    """The ascending list of the sets of just so many WHEELS that can show together."""
    return sorted([crowd for crowd in all_crowds(mill, need_table(mill)) if len(crowd) == many])


def crowd_paper(mill, some):
    """A SETTING and a tick at which all of these show, None if there is none."""
    choice = a_choice(mill, some)
    if choice is None:
        return None
    chosen = [(wheel, place) for wheel, (_, place) in zip(wheels_called(mill, some), choice)]
    return parted(least_setting(tick_mill(mill, chosen)))


def is_crowd_paper(mill, some, thing):
    """Whether thing is a SETTING and a tick at which all of these show."""
    return is_broken_at(mill, some, (), thing)


def met_pairs(mill, table):
    """A dict with True for each pair of WHEELS that can show together."""
    return {crowd: True for crowd in all_crowds(mill, table) if len(crowd) == 2}


def least_sharing(mill, table):
    """Of the SHARINGS with the fewest sets, no set with two that can show together, the least."""
    met = met_pairs(mill, table)
    rows = [()]
    for name in wheel_names(mill):
        longer = []
        for row in rows:
            for place, part in enumerate(row):
                if not any([(one, name) in met for one in part]):
                    longer.append(row[:place] + ((*part, name),) + row[place + 1:])
            longer.append(row + ((name,),))
        rows = longer
    return fewest_lot(sorted(rows))


def hands_for_ever(mill):
    """How many sets a SHARING that does has at the least."""
    return len(sharing(mill))


def sharing(mill):
    """Of the SHARINGS that do and have the fewest sets the least."""
    return least_sharing(mill, need_table(mill))


def is_sharing(mill, thing):
    """Whether thing is a SHARING of the MILL that does."""
    met = met_pairs(mill, need_table(mill))
    names = wheel_names(mill)
    if not isinstance(thing, tuple) or not all([is_set_of(part, names) for part in thing]):
        return False
    if () in thing or not ascends(thing):
        return False
    if sorted([name for part in thing for name in part]) != names:
        return False
    return not any([(one, other) in met for part in thing for one in part for other in part])


def shared_now(mill, setting):
    """How many sets a SHARING that does in this SETTING has at the least."""
    return len(least_sharing(mill, held_table(mill, setting)))


def fewest_sharing(mill, table):
    return len(least_sharing(mill, table))


def fewest_offers(mill, offers, many, counted):
    """The least set of offers with which there is a SETTING, and counted tells many at most."""
    for _, one, other, _, _ in offers:
        need_end(mill, one)
        need_end(mill, other)
    need_table(mill)
    for chosen in sorted(sorted(all_lots(tupled(offers))), key=len):
        own = (mill[0], [*mill[1], *chosen])
        table = sure_table(own)
        if table is not None and counted(own, table) <= many:
            return tuple([offer[0] for offer in chosen])
    return None


def more_for(mill, offers, many):
    """The least set of offers with which at most so many WHEELS show at one tick, None if there is none."""
    return fewest_offers(mill, offers, many, greatest_crowd)


def more_to_share(mill, offers, many):
    """The least set of offers with which a SHARING of at most so many sets does, None if there is none."""
    return fewest_offers(mill, offers, many, fewest_sharing)
