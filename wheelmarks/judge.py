"""One judge: whether a PROMISE stands, a PAPER against it if not, and which SAYINGS it stands by."""

from wheelmarks.asks import is_unlike_after, unlike_after
from wheelmarks.bridges import clash_ring, is_clash_ring
from wheelmarks.covers import is_uncovered, uncovered
from wheelmarks.errors import NoNumber, NoPaper, NoWord, Unfit
from wheelmarks.hands import crowd_paper, crowds, is_crowd_paper, most_at_once
from wheelmarks.lates import need_table
from wheelmarks.lean import is_loose_setting, loose_setting
from wheelmarks.lots import all_lots, least_lots
from wheelmarks.meets import is_unmet, unmet
from wheelmarks.mills import begin_table, is_setting, showing, shows_at
from wheelmarks.rings import bad_ring, is_bad_ring
from wheelmarks.rules import broken_at, is_broken_at, is_moment
from wheelmarks.seen import (
    a_fitting,
    is_fitting,
    need_fitting,
    need_looks,
    shown_at,
    with_unseen,
)
from wheelmarks.sheets import is_paper_for, paper_for
from wheelmarks.sures import is_sure, late_in
from wheelmarks.values import (
    all_but,
    is_multiple,
    just_these,
    saying_called,
    saying_names,
    tupled,
    wheels_called,
)
from wheelmarks.wrong import is_twin_paper, twin_paper

# SAYINGS of these are named in them, or stand in two MILLS, so none can be left out.
WHOLE = ("needless", "found", "agree", "band")


def late_paper(mill, one, other, late, dial):
    """A SETTING in which other is not so late behind one, None if it surely is."""
    if is_sure(mill, one, other, late, dial):
        return None
    return uncovered(mill, [("late", one, other, late, dial, 0)])


def is_late_paper(mill, one, other, late, dial, thing):
    """Whether thing is a SETTING in which other is not so late behind one."""
    is_sure(mill, one, other, late, dial)
    return is_setting(mill, thing) and not is_multiple(late_in(thing, one, other) - late, dial)


def hidden_paper(mill, looks, wheel, tick):
    """A SETTING that fits in which the WHEEL does not show at the tick, None if it surely shows."""
    need_looks(mill, looks)
    looked = wheels_called(mill, [wheel])[0]
    more = [*with_unseen(mill, looks), shown_at(looked, tick, "")]
    for own in need_fitting(mill, looks):
        setting = uncovered(own, more)
        if setting is not None:
            return setting
    return None


def is_hidden_paper(mill, looks, wheel, tick, thing):
    """Whether thing is a SETTING that fits in which the WHEEL does not show at the tick."""
    need_looks(mill, looks)
    looked = wheels_called(mill, [wheel])[0]
    need_fitting(mill, looks)
    return is_fitting(mill, looks, thing) and not shows_at(looked, begin_table(thing)[wheel], tick)


def many_paper(mill, number):
    """A SETTING and a tick at which more than number WHEELS show, None if there is none."""
    most = most_at_once(mill)
    if most <= number:
        return None
    return crowd_paper(mill, crowds(mill, most)[0])


def is_many_paper(mill, number, thing):
    """Whether thing is a SETTING and a tick at which more than number WHEELS show."""
    need_table(mill)
    return is_moment(mill, thing) and len(showing(mill, thing[0], thing[1])) > number


def judges_of(word):
    """The function that finds a PAPER, None if there is none, and the one that judges papers."""
    match word:
        case "kept":
            return (bad_ring, is_bad_ring)
        case "sure":
            return (late_paper, is_late_paper)
        case "needless":
            return (loose_setting, is_loose_setting)
        case "covered":
            return (uncovered, is_uncovered)
        case "apart":
            return (crowd_paper, is_crowd_paper)
        case "meet":
            return (unmet, is_unmet)
        case "rule":
            return (broken_at, is_broken_at)
        case "clash":
            return (a_fitting, is_fitting)
        case "seen":
            return (hidden_paper, is_hidden_paper)
        case "told":
            return (unlike_after, is_unlike_after)
        case "found":
            return (twin_paper, is_twin_paper)
        case "agree":
            return (clash_ring, is_clash_ring)
        case "hands":
            return (many_paper, is_many_paper)
        case "band":
            return (paper_for, is_paper_for)
    raise NoWord(word)


def found_paper(promise):
    """A PAPER against the PROMISE, None if it stands."""
    word, *given = promise
    finds, _ = judges_of(word)
    return finds(*given)


def stands(promise):
    """Whether there is no PAPER against the PROMISE."""
    return found_paper(promise) is None


def paper(promise):
    """A PAPER against the PROMISE; raises NoPaper if it stands."""
    thing = found_paper(promise)
    if thing is None:
        raise NoPaper()
    return thing


def is_paper(promise, thing):
    """Whether thing is a PAPER against the PROMISE."""
    word, *given = promise
    _, judged = judges_of(word)
    return judged(*given, thing)


def need_parted(promise):
    """Raises Unfit if SAYINGS of the PROMISE's MILL can not be left out."""
    judges_of(promise[0])
    if promise[0] in WHOLE:
        raise Unfit()


def with_mill(promise, mill):
    """The PROMISE of another MILL."""
    word, _, *given = tupled(promise)
    return (word, tupled(mill), *given)


def without(promise, names):
    """The PROMISE in whose MILL these SAYINGS are gone."""
    need_parted(promise)
    for name in names:
        saying_called(promise[1], name)
    return with_mill(promise, all_but(promise[1], names))


def narrowed_to(promise, name, dial):
    """The PROMISE in whose MILL this SAYING has this dial, a multiple of its own."""
    judges_of(promise[0])
    if promise[0] == "agree":
        raise Unfit()
    wheels, sayings = promise[1]
    _, one, other, late, known = saying_called(promise[1], name)
    if not is_multiple(dial, known):
        raise NoNumber(dial)
    told = (name, one, other, late, dial)
    return with_mill(promise, (wheels, [told if saying[0] == name else saying for saying in sayings]))


def leans_on(promise):
    """The set of the SAYINGS without each of which, that one alone, the PROMISE does not stand."""
    need_parted(promise)
    stands(promise)
    return tuple([name for name in saying_names(promise[1]) if not stands(without(promise, (name,)))])


def grounds(promise):
    """The ascending list of the sets of SAYINGS with which alone, and no part of them, the PROMISE stands."""
    needed = leans_on(promise)
    if promise[0] == "kept":
        # It stands without SAYINGS, and is the one word for which more of them can be too many.
        return [()]
    names = saying_names(promise[1])
    bits = [1 << place for place in range(len(names))]
    does = []
    for lot, kept in enumerate(all_lots(names)):
        # One with a part that does is no ground itself, and one without what is needed does not stand.
        so = any([does[lot ^ bit] for bit in bits if lot & bit != 0])
        if not so and all([name in kept for name in needed]):
            so = stands(with_mill(promise, just_these(promise[1], kept)))
        does.append(so)
    return least_lots(names, does)
