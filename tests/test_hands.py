import itertools
import random
import unittest

from tests.brute import as_begins, begins_up_to, fewest_part, keeps, kept_mills, parts_of, sign_at, turn_of
from tests.case import Case
from tests.samples import BARE, EMPTY, GREAT, MILL, ODD, SQUARE, WRONG, changed
from wheelmarks.errors import NoSetting, NoWheel
from wheelmarks.hands import (
    crowd_paper, crowds, hands_for_ever, hands_now, is_crowd_paper, is_sharing, more_for, more_to_share, most_at_once,
    shared_now, sharing,
)
from wheelmarks.mills import is_setting
from wheelmarks.rules import is_broken_at

TRI = (
    (("a", 3, 2), ("b", 3, 2), ("c", 3, 2)),
    (("k", "", "a", 0, 3), ("l", "", "b", 1, 3), ("m", "", "c", 2, 3)),
)
HERE = (("a", 0), ("b", 1), ("c", 5))
OFFER = (("z", "a", "b", 0, 2),)


def names_of(mill):
    return [wheel[0] for wheel in mill[0]]


def with_offers(mill, offers):
    return mill[0], tuple(sorted(mill[1] + tuple(offers)))


def ways_to_part(names):
    """All ways to put these into sets, each into just one, none of these sets without one."""
    if not names:
        return [()]
    found = []
    for rest in ways_to_part(names[1:]):
        found.append(tuple(sorted(((names[0],), *rest))))
        for place, part in enumerate(rest):
            found.append(tuple(sorted((*rest[:place], (names[0], *part), *rest[place + 1:]))))
    return found


def least_apart(names, together):
    """Of the ways to part these so that no two of a set are together the least with the fewest sets."""
    return fewest_part([parts for parts in ways_to_part(names) if not any(
        set(pair) <= set(part) for pair in together for part in parts
    )])


def is_within(part, lots):
    """Whether all of part are in one of these."""
    return any(set(part) <= set(lot) for lot in lots)


def pairs_within(mill, lots):
    return [pair for pair in itertools.combinations(names_of(mill), 2) if is_within(pair, lots)]


class Errors(Case):
    def test_no_setting(self):
        for function, *more in (
            (hands_now, (("a", 0), ("b", 0), ("c", 0))), (most_at_once,), (crowds, 2), (crowds, -1), (crowd_paper, ()),
            (crowd_paper, ("a",)), (is_crowd_paper, ("a",), None), (hands_for_ever,), (sharing,), (is_sharing, None),
            (shared_now, (("a", 0), ("b", 0), ("c", 0))), (more_for, (), 3), (more_for, OFFER, -1),
            (more_to_share, OFFER, 9),
        ):
            self.raises(NoSetting, {}, function, WRONG, *more)

    def test_no_wheel_first(self):
        for mill in (MILL, WRONG):
            for some, name in ((("a", "d"), "d"), (("", "a"), ""), (("p", "z"), "p")):
                self.raises(NoWheel, {"name": name}, crowd_paper, mill, some)
                self.raises(NoWheel, {"name": name}, is_crowd_paper, mill, some, (HERE, 0))
            for function in (more_for, more_to_share):
                for one, other, name in (("x", "y", "x"), ("a", "y", "y"), ("", "p", "p")):
                    offers = OFFER + (("zz", one, other, 0, 2), ("zzz", "w", "v", 0, 1))
                    self.raises(NoWheel, {"name": name}, function, mill, offers, -1)


class Edges(Case):
    def test_no_wheels(self):
        self.assertEqual((hands_now(EMPTY, ()), most_at_once(EMPTY)), (0, 0))
        self.assertEqual((crowds(EMPTY, 0), crowds(EMPTY, 1)), ([()], []))
        self.assertEqual((hands_for_ever(EMPTY), sharing(EMPTY), shared_now(EMPTY, ())), (0, (), 0))
        self.assertEqual((is_sharing(EMPTY, ()), is_sharing(EMPTY, ((),))), (True, False))
        self.assertEqual((more_for(EMPTY, (), 0), more_for(EMPTY, (), -1), more_to_share(EMPTY, (), 0)), ((), None, ()))
        self.assertEqual((crowd_paper(EMPTY, ()), is_crowd_paper(EMPTY, (), ((), 7))), (((), 0), True))

    def test_many(self):
        self.assertEqual([crowds(MILL, many) for many in (-GREAT, -1, 0, 4, GREAT)], [[], [], [()], [], []])
        self.assertEqual(crowds(MILL, 1), [("a",), ("b",), ("c",)])
        told = [more_for(MILL, OFFER, many) for many in (-1, 0, 1, 2, 3, GREAT)]
        self.assertEqual(told, [None, None, None, (), (), ()])
        self.assertEqual([more_to_share(MILL, (), many) for many in (-1, 0, 1, 2)], [None, None, None, ()])

    def test_no_some(self):
        for mill in (BARE, MILL, TRI):
            thing = crowd_paper(mill, ())
            self.assertIs(is_crowd_paper(mill, (), thing), True)
            self.assertIs(is_crowd_paper(mill, (), (thing[0], -GREAT)), True)

    def test_round_of_1_always_shows(self):
        mill = ((("a", 1, 1), ("b", GREAT, 4), ("c", 2, 2)), (("k", "", "b", 5, GREAT),))
        self.assertEqual((most_at_once(mill), sharing(mill)), (3, (("a",), ("b",), ("c",))))
        self.assertEqual(hands_now(mill, (("a", 3), ("b", 5), ("c", -GREAT))), 3)
        self.assertIs(is_crowd_paper(mill, ("a", "b", "c"), crowd_paper(mill, ("a", "b", "c"))), True)

    def test_offers_that_can_not_be_kept(self):
        offers = (("x", "a", "b", 1, 2), ("y", "a", "b", 0, 2), ("z", "a", "b", 0, 4))
        two = ((("a", 4, 1), ("b", 4, 1)), ())
        self.assertEqual((more_for(two, offers, 1), more_to_share(two, offers, 1)), (("x",), ("x",)))
        self.assertEqual((more_for(two, offers[1:], 1), more_to_share(two, offers[1:], 1)), (None, None))
        held = (two[0], (("w", "b", "a", 0, 2),))
        self.assertEqual((more_for(held, offers, 1), more_to_share(held, offers, 1)), (None, None))
        self.assertEqual((more_for(held, offers, 2), more_to_share(held, offers, 2)), ((), ()))
        apart = (("y", "b", "a", 2, 4), ("z", "b", "a", 6, 0))
        self.assertEqual((more_for(held, apart, 1), more_to_share(held, apart[1:], 1)), (("y",), ("z",)))

    def test_the_least_of_several_sets(self):
        """Two pairs of offers do, each on a way of its own; w comes ahead of x, though y comes ahead of z."""
        mill = ((("a", 4, 1), ("b", 4, 1), ("c", 1, 1)), ())
        offers = (("w", "a", "c", 0, 4), ("x", "", "a", 0, 2), ("y", "", "b", 1, 2), ("z", "c", "b", 1, 2))
        for function in (more_for, more_to_share):
            self.assertEqual(function(mill, offers, 2), ("w", "z"))
            self.assertEqual(function(mill, offers[1:], 2), ("x", "y"))
            self.assertEqual(function(mill, offers[::3], 2), ("w", "z"))
            self.assertIsNone(function(mill, offers[:2], 2))

    def test_sharings_with_more_sets(self):
        sets = ((("a", "c"), ("b",)), (("a",), ("b",), ("c",)), (("a",), ("b", "c")))
        self.assertEqual([is_sharing(MILL, thing) for thing in sets], [True, True, False])
        self.assertEqual((sharing(MILL), hands_for_ever(MILL), most_at_once(MILL)), ((("a", "c"), ("b",)), 2, 2))

    def test_numbers_are_great(self):
        wheels = tuple((name, GREAT, 4) for name in "abcdefg")
        row = tuple(("k" + name, "", name, 2 * place - GREAT, GREAT) for place, name in enumerate("abcdefg"))
        mill = (wheels, row)
        self.assertEqual((most_at_once(mill), hands_for_ever(mill)), (2, 2))
        self.assertEqual(sharing(mill), (("a", "c", "e", "g"), ("b", "d", "f")))
        self.assertEqual(len(crowds(mill, 2)), 6)
        paper = crowd_paper(mill, ("c", "d"))
        self.assertIs(is_crowd_paper(mill, ("c", "d"), (paper[0], paper[1] - 7 * GREAT)), True)
        self.assertEqual(more_for((wheels, ()), row[:6], 6), ("ka", "kc"))
        self.assertEqual(more_to_share((wheels, ()), row[:6], 4), ("ka", "kb", "kc", "kd", "ke"))

    def test_bounds(self):
        """Marks of four ticks each of seven WHEELS, of which each two can meet in many ways, and not all."""
        wheels = tuple((name, 12 * 5 ** 30, 4) for name in "abcdefg")
        dials = (6, 4, 6, 5, 6, 10, 4, 6, 6, 15, 4, 6)
        pairs = list(itertools.combinations(range(7), 2))[::-1]
        told = [("abcdefg"[one], "abcdefg"[other], 5 * (other - one), dial) for (one, other), dial in zip(pairs, dials)]
        mill = (wheels, tuple(sorted(("k" + row[0] + row[1], *row) for row in told)))
        told = most_at_once(mill)
        self.assertEqual([len(crowds(mill, many)) > 0 for many in (told, told + 1)], [True, False])
        offers = tuple((f"z{name}", "", name, place, 12) for place, name in enumerate("abcdef"))
        for many in (1, told - 1):
            chosen = more_for(mill, offers, many)
            if chosen is not None:
                own = with_offers(mill, [offer for offer in offers if offer[0] in chosen])
                self.assertLessEqual(most_at_once(own), many)
        self.assertIsNone(more_to_share(mill, offers, 0))


class GoneThrough(Case):
    ROUNDS = ((2, 1), (3, 1), (3, 2), (4, 1), (4, 3), (1, 1))

    def mills(self, seed, many):
        source = random.Random(seed)
        for wheels, sayings, dials, rounds in (
            (3, 3, (2, 3, 4), self.ROUNDS), (4, 4, (2,), ((2, 1), (4, 1), (4, 2))), (2, 2, (0, 4), self.ROUNDS),
            (3, 5, (3, 6), ((3, 1), (3, 2))), (3, 4, (2, 4), ((4, 1), (2, 1))), (2, 3, (4,), ((4, 1), (4, 2))),
        ):
            for mill, setting in kept_mills(source, many, wheels, sayings, dials, rounds):
                number = self.turn(mill)
                yield mill, setting, number, self.moments(mill, number)

    def turn(self, mill):
        """What all dials and rounds divide; with a dial 0 twice that."""
        number = turn_of(mill, *[wheel[1] for wheel in mill[0]])
        return number // 2 if all(saying[4] for saying in mill[1]) else number

    def shown(self, mill, begun, tick):
        return frozenset(wheel[0] for wheel in mill[0] if sign_at(wheel, begun[wheel[0]], tick) is not None)

    def moments(self, mill, number):
        """All sets of WHEELS that show at some tick of some SETTING, with one of each."""
        # Rounds and dials divide the number, so ticks are gone through by moving all begins.
        found = {}
        for begun in begins_up_to(mill, number):
            for tick in range(number if any(saying[1] == "" or saying[2] == "" for saying in mill[1]) else 1):
                found.setdefault(self.shown(mill, begun, tick), (begun, tick))
        return found

    def test_crowds(self):
        told = set()
        for mill, _, number, moments in self.mills(131, 8):
            most = max(len(shown) for shown in moments)
            self.assertEqual(most_at_once(mill), most)
            for many in range(-1, len(mill[0]) + 2):
                right = [part for part in parts_of(names_of(mill)) if len(part) == many and is_within(part, moments)]
                self.assertEqual(crowds(mill, many), right)
            for part in parts_of(names_of(mill)):
                thing = crowd_paper(mill, part)
                self.assertIs(thing is not None, part in crowds(mill, len(part)))
                self.assertIs(is_crowd_paper(mill, part, thing), thing is not None)
                if thing is not None:
                    begun = {"": 0, **dict(thing[0])}
                    self.assertTrue(is_setting(mill, thing[0]) and set(part) <= self.shown(mill, begun, thing[1]))
            told.add(most)
        self.assertTrue({1, 2, 3, 4} <= told, told)

    def test_sharings(self):
        told = set()
        for mill, _, number, moments in self.mills(132, 7):
            together = pairs_within(mill, moments)
            right = least_apart(tuple(names_of(mill)), together)
            self.assertEqual((sharing(mill), hands_for_ever(mill)), (right, len(right)))
            for parts in ways_to_part(tuple(names_of(mill))):
                does = not any(set(pair) <= set(part) for pair in together for part in parts)
                self.assertIs(is_sharing(mill, parts), does)
            told.add((most_at_once(mill) == len(right), len(right)))
        self.assertTrue({(True, 1), (True, 2), (False, 3)} <= told, told)

    def test_one_setting(self):
        told = set()
        for mill, setting, number, _ in self.mills(133, 8):
            begun = {"": 0, **dict(setting)}
            shown = [self.shown(mill, begun, tick) for tick in range(number)]
            self.assertEqual(hands_now(mill, setting), max(len(part) for part in shown))
            right = least_apart(tuple(names_of(mill)), pairs_within(mill, shown))
            self.assertEqual(shared_now(mill, setting), len(right))
            told.add((hands_now(mill, setting) < most_at_once(mill), shared_now(mill, setting) < hands_for_ever(mill)))
        self.assertTrue({(False, False), (True, True)} <= told, told)

    def test_offers(self):
        source = random.Random(134)
        told = set()
        rounds = ((2, 1), (4, 1), (4, 2))
        mills = [mill for wheels in (2, 3) for mill, _ in kept_mills(source, 9, wheels, wheels - 2, (2, 4), rounds)]
        for mill in mills:
            ends = ["", *names_of(mill)]
            offers = tuple(
                (name, *source.sample(ends, 2), source.randrange(4), source.choice((2, 4))) for name in "xyz"
            )
            every = {part: with_offers(mill, part) for part in parts_of(offers)}
            moments = {part: self.moments(own, self.turn(own)) for part, own in every.items()}
            for many in range(-1, len(mill[0]) + 1):
                does = [part for part in every if moments[part] and max(len(shown) for shown in moments[part]) <= many]
                right = fewest_part([tuple(offer[0] for offer in part) for part in does])
                self.assertEqual(more_for(mill, offers, many), right)
                does = [part for part in every if moments[part] and self.for_ever(mill, moments[part]) <= many]
                shared = fewest_part([tuple(offer[0] for offer in part) for part in does])
                self.assertEqual(more_to_share(mill, offers, many), shared)
                told.add((None if right is None else len(right), right == shared))
        self.assertTrue({(None, True), (0, True), (1, True), (2, True)} <= told, told)

    def for_ever(self, mill, moments):
        return len(least_apart(tuple(names_of(mill)), pairs_within(mill, moments)))

    def test_papers(self):
        for mill, _, number, _ in self.mills(136, 2):
            for begins in itertools.product(range(3), repeat=len(mill[0])):
                setting = as_begins(dict(zip(names_of(mill), begins)))
                right = all(keeps(setting, saying) for saying in mill[1])
                for part in parts_of(names_of(mill)):
                    for tick in (-1, 0, 2):
                        shown = self.shown(mill, dict(setting), tick)
                        told = is_crowd_paper(mill, part, (setting, tick))
                        self.assertIs(told, right and set(part) <= shown)
                        self.assertIs(is_broken_at(mill, part, (), (setting, tick)), told)


class Things(Case):
    def test_sharings(self):
        for mill in (MILL, TRI, BARE, EMPTY):
            right = {repr(parts) for parts in ways_to_part(tuple(names_of(mill))) if is_sharing(mill, parts)}
            for parts in ways_to_part(tuple(names_of(mill))):
                for thing in changed(parts):
                    self.assertIs(is_sharing(mill, thing), repr(thing) in right, repr(thing)[:200])
            for thing in ODD:
                self.assertIs(is_sharing(mill, thing), repr(thing) in right, repr(thing)[:200])

    def test_crowd_papers(self):
        for thing in (*changed((HERE, 3)), *changed((HERE, -6)), *ODD):
            right = type(thing) is tuple and len(thing) == 2 and is_setting(TRI, thing[0]) and type(thing[1]) is int
            if right:
                begun = dict(thing[0])
                right = all(sign_at(wheel, begun[wheel[0]], thing[1]) is not None for wheel in (TRI[0][0], TRI[0][2]))
            self.assertIs(is_crowd_paper(TRI, ("a", "c"), thing), right, repr(thing)[:200])
        self.assertIs(is_crowd_paper(SQUARE[:1] + ((),), (), ((("a", 0),), 0)), False)


if __name__ == "__main__":
    unittest.main()
