"""What is sure of a MILL when somebody looked and saw which WHEELS showed."""

from wheelmarks.covers import is_covered, uncovered
from wheelmarks.errors import Unfit
from wheelmarks.lates import need_table, sure_table
from wheelmarks.lots import members
from wheelmarks.mills import begin_table, is_setting, shows_at
from wheelmarks.shares import bare_parts, kept_parts, taken_off
from wheelmarks.values import (
    LETTERS,
    ascends,
    end_names,
    is_number,
    is_row,
    need_wheel,
    saying_names,
    tupled,
    wheel_names,
    wheels_called,
)


def is_look(mill, thing):
    if not is_row(thing, 3) or not is_number(thing[0]) or not isinstance(thing[1], str):
        return False
    return thing[1] in wheel_names(mill) and isinstance(thing[2], bool)


def is_looks(mill, thing):
    """Whether thing is LOOKS of the MILL, of however many."""
    if not isinstance(thing, tuple) or not all([is_look(mill, look) for look in thing]):
        return False
    return ascends(thing)


def need_looks(mill, looks):
    for _, wheel, _ in looks:
        need_wheel(mill, wheel)


def all_fit(mill, setting, looks):
    wheels = {wheel[0]: wheel for wheel in mill[0]}
    begun = begin_table(setting)
    for tick, name, showed in looks:
        if shows_at(wheels[name], begun[name], tick) != showed:
            return False
    return True


def fits(mill, setting, looks):
    """Whether by this SETTING all is as it was seen."""
    need_looks(mill, looks)
    return all_fit(mill, setting, looks)


def nth_name(place):
    """The NAME with this place, from 0, of a, b, .., z, aa, ab, .."""
    word = ""
    left = place + 1
    while left > 0:
        left, letter = divmod(left - 1, len(LETTERS))
        word = LETTERS[letter] + word
    return word


def new_names(mill, many):
    """The first so many NAMES that no SAYING has."""
    known = saying_names(mill)
    # As many as there are SAYINGS can be taken, so these are enough.
    names = [nth_name(place) for place in range(many + len(known))]
    return [name for name in names if name not in known][:many]


def with_seen(mill, looks):
    """The MILLS that come if each WHEEL that showed began to j ticks ahead, one for each choice."""
    need_looks(mill, looks)
    wheels, sayings = tupled(mill)
    turns = {wheel[0]: wheel for wheel in wheels}
    rows = [()]
    for word, (tick, name, showed) in zip(new_names(mill, len(looks)), looks):
        if showed:
            _, turn, shown = turns[name]
            rows = [(*row, (word, "", name, tick - at, turn)) for row in rows for at in range(shown)]
    return [(wheels, tuple(sorted([*sayings, *row]))) for row in rows]


def shown_at(wheel, tick, word):
    """The further SAYING that is kept exactly if this WHEEL shows at the tick."""
    name, turn, shown = wheel
    return (word, "", name, tick + 1 - shown, turn, shown - 1)


def with_unseen(mill, looks):
    """Further SAYINGS, one for each LOOK that did not show, kept exactly if it shows then."""
    need_looks(mill, looks)
    wheels = {wheel[0]: wheel for wheel in mill[0]}
    words = new_names(mill, len(looks))
    return tuple(sorted([
        shown_at(wheels[name], tick, word) for word, (tick, name, showed) in zip(words, looks) if not showed
    ]))


def a_fitting(mill, looks):
    """A SETTING that fits, None if there is none."""
    more = with_unseen(mill, looks)
    for own in with_seen(mill, looks):
        setting = uncovered(own, more)
        if setting is not None:
            return setting
    return None


def is_fitting(mill, looks, thing):
    """Whether thing is a SETTING that fits."""
    need_looks(mill, looks)
    return is_setting(mill, thing) and all_fit(mill, thing, looks)


def fitting_mills(mill, looks):
    """Those of the MILLS of with_seen that have a SETTING which fits."""
    more = with_unseen(mill, looks)
    return [own for own in with_seen(mill, looks) if not is_covered(own, more)]


def can_fit(mill, looks):
    return len(fitting_mills(mill, looks)) > 0


def picked(looks, places):
    return [looks[place] for place in places]


def clash(mill, looks):
    """A CLASH, None if a SETTING fits."""
    need_looks(mill, looks)
    need_table(mill)
    if can_fit(mill, looks):
        return None
    left = list(range(len(looks)))
    for place in range(len(looks)):
        fewer = [other for other in left if other != place]
        if not can_fit(mill, picked(looks, fewer)):
            left = fewer
    return tuple(left)


def is_clash(mill, looks, thing):
    """Whether thing is a CLASH of these LOOKS."""
    need_looks(mill, looks)
    need_table(mill)
    if not isinstance(thing, tuple) or not all([is_number(place) for place in thing]):
        return False
    if not ascends(thing) or not all([0 <= place < len(looks) for place in thing]):
        return False
    if can_fit(mill, picked(looks, thing)):
        return False
    return all([can_fit(mill, picked(looks, [other for other in thing if other != place])) for place in thing])


def need_fitting(mill, looks):
    """The MILLS of with_seen that fit; raises NoSetting, then Unfit if none does."""
    need_table(mill)
    mills = fitting_mills(mill, looks)
    if mills == []:
        raise Unfit()
    return mills


def can_hide(mills, more, wheel, tick):
    """Whether in some SETTING that fits this WHEEL does not show at the tick; mills are those that fit."""
    further = [*more, shown_at(wheel, tick, "")]
    return not all([is_covered(own, further) for own in mills])


def can_show(mills, more, wheel, tick):
    """Whether in some SETTING that fits this WHEEL shows at the tick."""
    further = [*more, shown_at(wheel, tick, "")]
    for own in mills:
        bare = bare_parts(end_names(own), sure_table(own), further)[0]
        # What keeps none of more is greater than what keeps none of it and does not show.
        if bare[len(bare) // 2 - 1] != bare[-1]:
            return True
    return False


def sure_at(mill, looks, wheel, tick):
    """True if the WHEEL surely shows at the tick, False if it surely does not, None otherwise."""
    need_looks(mill, looks)
    looked = wheels_called(mill, [wheel])[0]
    mills, more = need_fitting(mill, looks), with_unseen(mill, looks)
    if not can_hide(mills, more, looked, tick):
        return True
    return None if can_show(mills, more, looked, tick) else False


def surely_at(mill, looks, tick):
    """The set of the WHEELS that surely show at the tick."""
    need_looks(mill, looks)
    mills, more = need_fitting(mill, looks), with_unseen(mill, looks)
    begun = begin_table(uncovered(mills[0], more))
    found = []
    for wheel in mill[0]:
        # One that does not show in the SETTING at hand need not be asked for all others.
        if shows_at(wheel, begun[wheel[0]], tick) and not can_hide(mills, more, wheel, tick):
            found.append(wheel[0])
    return tuple(found)


def maybe_at(mill, looks, tick):
    """The set of the WHEELS that show at the tick in some SETTING that fits."""
    need_looks(mill, looks)
    mills, more = need_fitting(mill, looks), with_unseen(mill, looks)
    begun = begin_table(uncovered(mills[0], more))
    found = []
    for wheel in mill[0]:
        if shows_at(wheel, begun[wheel[0]], tick) or can_show(mills, more, wheel, tick):
            found.append(wheel[0])
    return tuple(found)


def who_showed(mill, looks, some, tick):
    """The ascending list of the sets of those of some that alone show in some SETTING that fits."""
    need_looks(mill, looks)
    wheels = wheels_called(mill, some)
    mills, more = need_fitting(mill, looks), with_unseen(mill, looks)
    further = [*more, *[shown_at(wheel, tick, "") for wheel in wheels]]
    found = []
    for own in mills:
        parts = kept_parts(end_names(own), sure_table(own), further)[0]
        for lot in range(1 << len(wheels)):
            # The lot's bits stand behind those of more, of which none is kept.
            shown = lot << len(more)
            hidden = [place for place in range(len(further)) if shown >> place & 1 == 0]
            if taken_off(parts, hidden)[-1] != 0:
                found.append(members(some, lot))
    return sorted(set(found))


def first_sure(mill, looks, wheel, tick):
    """The first tick from this one on at which the WHEEL surely shows, None if there is none."""
    need_looks(mill, looks)
    looked = wheels_called(mill, [wheel])[0]
    mills, more = need_fitting(mill, looks), with_unseen(mill, looks)
    begin = begin_table(uncovered(mills[0], more))[wheel]
    _, turn, shown = looked
    # What is sure shows in the SETTING at hand, too, so no other ticks of a round come into question.
    ticks = sorted([tick + (begin + at - tick) % turn for at in range(shown)])
    for later in ticks:
        if not can_hide(mills, more, looked, later):
            return later
    return None


def told_begins(mill, looks):
    """The pairs (wheel, begin) of the WHEELS whose begin is surely this one, up to the round."""
    need_looks(mill, looks)
    mills, more = need_fitting(mill, looks), with_unseen(mill, looks)
    begun = begin_table(uncovered(mills[0], more))
    found = []
    for name, turn, _ in mill[0]:
        begin = begun[name] % turn
        # A WHEEL that shows for one tick a round shows at its begin alone.
        if not can_hide(mills, more, (name, turn, 1), begin):
            found.append((name, begin))
    return tuple(found)
