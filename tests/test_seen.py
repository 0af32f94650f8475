import itertools
import math
import random
import unittest

from tests.brute import as_begins, begins_up_to, keeps, kept_mills, parts_of, turn_of
from tests.case import Case
from tests.samples import BARE, EDGES, EMPTY, GREAT, ODD, SQUARE, WRONG, changed
from wheelmarks.covers import is_covered, is_more, is_uncovered
from wheelmarks.errors import NoSetting, NoWheel, Unfit
from wheelmarks.mills import is_mill, is_setting, shows_at
from wheelmarks.seen import (
    a_fitting, clash, first_sure, fits, is_clash, is_fitting, is_looks, maybe_at, sure_at, surely_at, told_begins,
    who_showed, with_seen, with_unseen,
)
from wheelmarks.settings import least_setting
from wheelmarks.sures import sure_late

MILL, FIRST = ((("a", 6, 1), ("b", 4, 1)), (("p", "a", "b", 1, 2),)), ((0, "a", True),)
BOTH = FIRST + ((1, "b", False),)
LONE = ((("c", 5, 2),), ())
ROUNDS = ((4, 1), (6, 1), (3, 2), (4, 2), (2, 1), (6, 2))


def shows_up_to(mill, begun, name, tick):
    wheel = [wheel for wheel in mill[0] if wheel[0] == name][0]
    return (tick - begun[name]) % wheel[1] < wheel[2]


def ought_looks(mill, thing):
    if type(thing) is not tuple or not all(type(look) is tuple and len(look) == 3 for look in thing):
        return False
    names = {wheel[0] for wheel in mill[0]}
    if not all(type(look[0]) is int and type(look[1]) is str and type(look[2]) is bool for look in thing):
        return False
    return all(look[1] in names for look in thing) and list(thing) == sorted(set(thing))


class Examples(Case):
    def test_mills(self):
        told = (
            with_seen(MILL, FIRST)[0][1], with_unseen(MILL, BOTH), fits(MILL, (("a", 6), ("b", 3)), BOTH),
            is_fitting(MILL, BOTH, a_fitting(MILL, BOTH)),
        )
        ought = (("a", "", "a", 0, 6), ("p", "a", "b", 1, 2)), (("b", "", "b", 1, 4, 0),), True, True
        self.assertEqual(told, ought)

    def test_sure(self):
        told = (
            sure_at(MILL, FIRST, "b", 2), sure_at(MILL, FIRST, "b", 1), sure_at(MILL, BOTH, "b", 3),
            surely_at(MILL, BOTH, 3), maybe_at(MILL, FIRST, 1),
        )
        self.assertEqual(told, (False, None, True, ("b",), ("b",)))
        told = (
            who_showed(MILL, FIRST, ("a", "b"), 6), who_showed(MILL, FIRST, ("a", "b"), 7), first_sure(MILL, BOTH, "b", 4),
            told_begins(MILL, FIRST), told_begins(MILL, BOTH),
        )
        self.assertEqual(told, ([("a",)], [(), ("b",)], 7, (("a", 0),), (("a", 0), ("b", 3))))

    def test_clash(self):
        three = BOTH + ((3, "b", False),)
        self.assertEqual((clash(MILL, three), is_clash(MILL, three, (1, 2)), clash(MILL, BOTH)), ((0, 1, 2), False, None))

    def test_lone(self):
        told = (
            [own[1] for own in with_seen(LONE, ((4, "c", True),))], with_unseen(LONE, ((6, "c", False),)),
            first_sure(LONE, ((4, "c", True), (6, "c", False)), "c", 5),
        )
        ought = [(("a", "", "c", 4, 5),), (("a", "", "c", 3, 5),)], (("a", "", "c", 5, 5, 1),), 9
        self.assertEqual(told, ought)
        self.raises(NoWheel, {"name": "z"}, sure_at, MILL, ((0, "z", True),), "y", 0)


class Errors(Case):
    LOOKING = (
        (sure_at, "a", 0), (surely_at, 0), (maybe_at, 0), (who_showed, ("a",), 0), (first_sure, "a", 0), (told_begins,),
    )

    def test_no_wheel_look_by_look(self):
        for looks, name in ((((0, "a", True), (1, "y", True), (2, "z", True)), "y"), (((0, "", True),), ""),
                            (((0, "y", True), (0, "z", False)), "y"), (((0, "p", False),), "p")):
            for mill in (MILL, WRONG):
                for function, *more in (*self.LOOKING, (with_seen,), (with_unseen,), (a_fitting,), (clash,)):
                    self.raises(NoWheel, {"name": name}, function, mill, looks, *more)
                for function in (is_fitting, is_clash):
                    self.raises(NoWheel, {"name": name}, function, mill, looks, None)
                self.raises(NoWheel, {"name": name}, fits, mill, (("a", 0), ("b", 1), ("c", 2))[:len(mill[0])], looks)
        for function in (sure_at, first_sure):
            self.raises(NoWheel, {"name": "y"}, function, WRONG, FIRST, "y", 0)
            self.raises(NoWheel, {"name": ""}, function, MILL, FIRST + ((1, "a", True),), "", 0)
        self.raises(NoWheel, {"name": "y"}, who_showed, WRONG, FIRST, ("a", "y", "z"), 0)
        self.raises(NoWheel, {"name": "z"}, who_showed, MILL, ((0, "z", True),), ("y",), 0)

    def test_no_setting(self):
        for mill in (WRONG, SQUARE):
            for looks in ((), FIRST, FIRST + ((1, "a", True),)):
                for function, *more in (*self.LOOKING, (clash,), (is_clash, (0,))):
                    self.raises(NoSetting, {}, function, mill, looks, *more)
                self.assertIsNone(a_fitting(mill, looks))
                self.assertIs(is_fitting(mill, looks, (("a", 0), ("b", 1), ("c", 2), ("d", 3))[:len(mill[0])]), False)
                self.assertEqual(len(with_seen(mill, looks)), 1)
                self.assertEqual(with_unseen(mill, looks), ())

    def test_unfit(self):
        for looks in (FIRST + ((1, "a", True),), ((0, "a", False), (0, "a", True)), BOTH + ((3, "b", False),)):
            self.assertIsNone(a_fitting(MILL, looks))
            for function, *more in self.LOOKING:
                self.raises(Unfit, {}, function, MILL, looks, *more)

    def test_fits_without_a_setting(self):
        self.assertIs(fits(WRONG, (("a", 0), ("b", 0), ("c", 0)), FIRST), True)
        self.assertIs(fits(WRONG, (("a", 0), ("b", 0), ("c", 0)), ((1, "b", False),)), False)


class Edges(Case):
    def test_no_looks(self):
        for mill in (EMPTY, BARE, MILL, EDGES):
            self.assertEqual((with_seen(mill, ()), with_unseen(mill, ()), clash(mill, ())), ([mill], (), None))
            self.assertIs(is_fitting(mill, (), a_fitting(mill, ())), True)
            self.assertIs(is_clash(mill, (), ()), False)
            self.assertEqual(who_showed(mill, (), (), 5), [()])
            self.assertIs(is_looks(mill, ()), True)
            self.assertIs(fits(mill, least_setting(mill), ()), True)
        self.assertEqual((surely_at(EMPTY, (), 0), maybe_at(EMPTY, (), 0), told_begins(EMPTY, ())), ((), (), ()))
        self.assertEqual((surely_at(BARE, (), 0), maybe_at(BARE, (), 0)), ((), ("a", "b", "c")))
        self.assertEqual((told_begins(BARE, ()), first_sure(BARE, (), "a", 0)), ((), None))

    def test_names_in_their_order(self):
        letters = "abcdefghijklmnopqrstuvwxyz"
        wheels = (("w", 3, 2),)
        looks = ((0, "w", False), (1, "w", True), (2, "w", True), (3, "w", False), (4, "w", True), (5, "w", False))
        taken = (wheels, tuple((name, "", "w", 0, 1) for name in sorted(letters)))
        self.assertEqual([further[0] for further in with_unseen(taken, looks)], ["aa", "ad", "af"])
        own = with_seen(taken, looks)[0]
        self.assertEqual([saying[0] for saying in own[1] if saying[4] == 3], ["ab", "ac", "ae"])
        self.assertIs(is_mill(own), True)
        less = (wheels, tuple((name, "", "w", 0, 1) for name in sorted(set(letters) - set("cyz")) + ["zz"]))
        self.assertEqual([further[0] for further in with_unseen(less, looks)], ["aa", "ac", "c"])
        self.assertEqual([saying[0] for saying in with_seen(less, looks)[0][1] if saying[4] == 3], ["ab", "y", "z"])
        self.assertEqual([saying[0] for saying in with_seen((wheels, ()), looks)[0][1]], ["b", "c", "e"])
        gap = (wheels, tuple((name, "", "w", 0, 1) for name in sorted([*letters, "aa", "ac", "ba"])))
        self.assertEqual([further[0] for further in with_unseen(gap, looks[:1] + looks[3:4] + looks[5:])], ["ab", "ad", "ae"])

    def test_last_look_changes_fastest(self):
        mill = ((("a", 5, 2), ("b", 7, 3)), (("p", "a", "b", 0, 1),))
        looks = ((1, "b", True), (2, "a", False), (9, "a", True))
        told = [(own[1][0], own[1][1]) for own in with_seen(mill, looks)]
        ought = [(("a", "", "b", 1 - at, 7), ("c", "", "a", 9 - more, 5)) for at in range(3) for more in range(2)]
        self.assertEqual(told, ought)
        self.assertEqual(with_unseen(mill, looks), (("b", "", "a", 1, 5, 1),))

    def test_both_words_at_one_tick(self):
        looks = ((3, "a", False), (3, "a", True))
        self.assertIs(is_looks(MILL, looks), True)
        self.assertIs(is_looks(MILL, looks[::-1]), False)
        self.assertEqual(clash(MILL, looks), (0, 1))
        self.assertIs(is_clash(MILL, looks, (0, 1)), True)
        self.assertEqual((len(with_seen(MILL, looks)), len(with_unseen(MILL, looks))), (1, 1))

    def test_always_shows(self):
        mill = ((("a", 3, 3), ("b", 1, 1)), ())
        self.assertEqual([clash(mill, ((-4, name, False),)) for name in "ab"], [(0,), (0,)])
        self.assertEqual((surely_at(mill, (), -7), first_sure(mill, (), "a", -7), sure_at(mill, (), "b", 5)),
                         (("a", "b"), -7, True))
        self.assertEqual(told_begins(mill, ()), (("b", 0),))
        self.assertEqual(who_showed(mill, (), ("a", "b"), 2), [("a", "b")])

    def test_ticks_below_0(self):
        looks = ((-6 * GREAT, "a", True), (-7, "b", False))
        self.assertEqual((told_begins(MILL, looks), first_sure(MILL, looks, "b", -GREAT)), ((("a", 0), ("b", 3)), 3 - GREAT))
        self.assertEqual([sure_at(MILL, looks, "b", tick) for tick in (-5, -1, -2)], [True, True, False])

    def test_numbers_are_great(self):
        wheels = (("a", GREAT, 4), ("b", GREAT - 1, 2), ("c", GREAT, 1))
        mill = (wheels, (("p", "a", "c", GREAT // 2, GREAT), ("q", "b", "c", 0, 2)))
        looks = ((0, "a", True), (1, "a", True), (4, "a", False), (GREAT // 2 - 5, "c", False))
        self.assertEqual(maybe_at(mill, looks, 0), ("a", "b"))
        self.assertEqual(surely_at(mill, looks, 1), ("a",))
        self.assertEqual(first_sure(mill, looks, "a", GREAT + 2), 2 * GREAT)
        self.assertIsNone(first_sure(mill, looks, "b", 0))
        self.assertIsNone(first_sure(mill, looks, "c", -GREAT))
        told = looks + ((GREAT // 2 - 2, "c", True),)
        self.assertEqual(told_begins(mill, told), (("a", GREAT - 2), ("c", GREAT // 2 - 2)))
        self.assertEqual(who_showed(mill, looks[:2], ("a", "c"), GREAT // 2), [(), ("c",)])
        self.assertIs(is_fitting(mill, told, a_fitting(mill, told)), True)
        self.assertEqual(clash(mill, looks + ((GREAT // 2 - 4, "c", True),)), (1, 4))

    def test_of_one_tick_each_by_what_is_sure(self):
        mill = ((("a", 6, 1), ("b", 6, 4), ("c", 4, 3)), (("p", "a", "b", 1, 3), ("q", "a", "c", 2, 2)))
        told = [surely_at(mill, FIRST, tick) for tick in range(6)]
        self.assertEqual(told, [("a", "c"), ("b",), ("c",), (), ("b", "c"), ()])
        for tied, looks in ((MILL, FIRST), (mill, FIRST), (mill, FIRST + ((6, "a", True),)), (BARE, ((3, "c", True),))):
            self.by_formula(tied, looks, range(-3, 13))

    def by_formula(self, mill, looks, ticks):
        """Checks what the document guarantees where all showed, with long 1."""
        own = with_seen(mill, looks)[0]
        for name, turn, shown in mill[0]:
            late, dial = sure_late(own, "", name)
            divisor = math.gcd(dial, turn)
            for tick in ticks:
                right = (tick - late) % divisor + turn - divisor < shown
                self.assertIs(sure_at(mill, looks, name, tick) is True, right)


class GoneThrough(Case):
    def fitting(self, mill, looks, number):
        return [
            begun for begun in begins_up_to(mill, number)
            if all(shows_up_to(mill, begun, name, tick) is showed for tick, name, showed in looks)
        ]

    def mills(self, seed, many):
        source = random.Random(seed)
        for wheels, sayings, dials in ((2, 1, (2, 3)), (3, 3, (2, 3, 4)), (2, 2, (0, 2)), (1, 0, (1,)), (3, 3, (2, 4, 0))):
            for mill, setting in kept_mills(source, many, wheels, sayings, dials, ROUNDS):
                looks = set()
                for _ in range(source.randrange(5)):
                    name, tick = source.choice(mill[0])[0], source.randrange(-7, 9)
                    showed = shows_up_to(mill, dict(setting), name, tick)
                    looks.add((tick, name, showed if source.random() < 0.8 else not showed))
                number = turn_of(mill, *[wheel[1] for wheel in mill[0]]) // 2
                if number <= 24:
                    yield mill, tuple(sorted(looks)), number

    def check_fit(self, mill, looks, found, number):
        thing = a_fitting(mill, looks)
        self.assertIs(thing is None, not found)
        self.assertIs(is_fitting(mill, looks, thing), thing is not None)
        exact = not any(saying[4] == 0 for saying in mill[1])
        for begun in begins_up_to(mill, number)[:80]:
            begins = as_begins(begun)
            self.assertIs(fits(mill, begins, looks), begun in found)
            if exact:
                self.assertIs(is_fitting(mill, looks, begins), begun in found)

    def check_mills(self, mill, looks, found, number):
        own, more = with_seen(mill, looks), with_unseen(mill, looks)
        self.assertIs(is_more(mill, more), True)
        self.assertTrue(all(is_mill(one) and is_more(one, more) for one in own))
        fit = [one for one in own if not is_covered(one, more)]
        self.assertIs(fit == [], not found)
        seen = sum(1 for look in looks if look[2])
        for one in own:
            self.assertEqual((len(one[1]), len(more)), (len(mill[1]) + seen, len(looks) - seen))
        for begun in found[:20]:
            if not any(saying[4] == 0 for saying in mill[1]):
                ways = [one for one in own if is_uncovered(one, more, as_begins(begun))]
                self.assertEqual(len(ways), 1)

    def check_clash(self, mill, looks, number):
        bad = [part for part in parts_of(range(len(looks)))
               if not self.fitting(mill, [looks[place] for place in part], number)]
        least = [part for part in bad if not any(set(other) < set(part) for other in bad)]
        self.assertIs(clash(mill, looks) in least if least else clash(mill, looks) is None, True)
        for part in parts_of(range(len(looks))):
            self.assertIs(is_clash(mill, looks, part), part in least)
            self.assertIs(is_clash(mill, looks, part[::-1]), part in least and len(part) < 2)

    def test_fitting(self):
        told = set()
        for mill, looks, number in self.mills(91, 30):
            found = self.fitting(mill, looks, number)
            self.check_fit(mill, looks, found, number)
            self.check_mills(mill, looks, found, number)
            told.add((found == [], len(looks) > 1))
        self.assertTrue({(True, True), (False, True), (False, False)} <= told)

    def test_clashes(self):
        told = set()
        for mill, looks, number in self.mills(92, 25):
            self.check_clash(mill, looks, number)
            told.add(len(clash(mill, looks) or ()))
        self.assertTrue({0, 2} <= told)

    def check_sure(self, mill, looks, found, number):
        names = [wheel[0] for wheel in mill[0]]
        shown = {}
        for tick in range(-3, number):
            for name in names:
                rows = {shows_up_to(mill, begun, name, tick) for begun in found}
                right = rows.pop() if len(rows) == 1 else None
                shown[name, tick % number] = right
                self.assertIs(sure_at(mill, looks, name, tick), right, (mill, looks, name, tick))
            surely = tuple(name for name in names if shown[name, tick % number] is True)
            maybe = tuple(name for name in names if shown[name, tick % number] is not False)
            self.assertEqual((surely_at(mill, looks, tick), maybe_at(mill, looks, tick)), (surely, maybe))
        for name in names:
            for tick in (-number - 1, -2, 0, 5, number + 3):
                later = [at for at in range(tick, tick + number) if shown[name, at % number] is True]
                self.assertEqual(first_sure(mill, looks, name, tick), min(later, default=None))

    def test_sure(self):
        for mill, looks, number in self.mills(93, 20):
            found = self.fitting(mill, looks, number)
            if found:
                self.check_sure(mill, looks, found, number)
                told = []
                for name, turn, _ in mill[0]:
                    begins = {begun[name] % turn for begun in found}
                    if len(begins) == 1:
                        told.append((name, begins.pop()))
                self.assertEqual(told_begins(mill, looks), tuple(told))
            else:
                self.raises(Unfit, {}, told_begins, mill, looks)

    def test_who_showed(self):
        for mill, looks, number in self.mills(94, 20):
            found = self.fitting(mill, looks, number)
            for some in parts_of([wheel[0] for wheel in mill[0]]):
                for tick in (-5, 0, 1, 2, 7):
                    rows = {tuple(name for name in some if shows_up_to(mill, begun, name, tick)) for begun in found}
                    if found:
                        self.assertEqual(who_showed(mill, looks, some, tick), sorted(rows))
                    else:
                        self.raises(Unfit, {}, who_showed, mill, looks, some, tick)


class Things(Case):
    def test_looks(self):
        told = set()
        for mill in (MILL, EDGES, EMPTY, WRONG):
            name = mill[0][-1][0] if mill[0] else "a"
            looks = ((-3, name, False), (-3, name, True), (GREAT, name, True))
            for thing in (*changed(looks), looks * 9, tuple((tick, name, True) for tick in range(99))):
                right = ought_looks(mill, thing)
                told.add(right)
                self.assertIs(is_looks(mill, thing), right, repr(thing)[:200])
        self.assertEqual(told, {True, False})
        for showed in (0, 1, None, "yes", (), 2):
            self.assertIs(is_looks(MILL, ((0, "a", showed),)), False)

    def test_fitting(self):
        wheels = {wheel[0]: wheel for wheel in MILL[0]}
        for thing in (*changed(a_fitting(MILL, BOTH)), *ODD):
            right = is_setting(MILL, thing) and all(
                shows_at(wheels[name], dict(thing)[name], tick) is showed for tick, name, showed in BOTH
            )
            self.assertIs(is_fitting(MILL, BOTH, thing), right, repr(thing)[:200])
            self.assertTrue(not right or all(keeps(thing, saying) for saying in MILL[1]))

    def test_clashes(self):
        looks = ((0, "a", True), (1, "a", True), (1, "b", False), (3, "b", False))
        # By a at 0 b is odd, so one of 1 and 3 is its own up to 4; by a at 1 it is even.
        for thing in (*changed((0, 1)), *changed((0, 2, 3)), *ODD, (-1, 0), (0, 4), (True, 2), (0, True), ("0", 1)):
            self.assertIs(is_clash(MILL, looks, thing), repr(thing) in ("(0, 1)", "(0, 2, 3)"), repr(thing)[:200])

    def test_all_places(self):
        looks = ((0, "a", True), (1, "a", True), (2, "a", True))
        for part in itertools.chain(parts_of(range(3)), [(0, 3), (-1, 0), (1, 0), (0, 0)]):
            self.assertIs(is_clash(MILL, looks, part), part in ((0, 1), (0, 2), (1, 2)))


if __name__ == "__main__":
    unittest.main()
