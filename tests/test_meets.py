import itertools
import math
import random
import unittest

from tests.brute import as_begins, begins_up_to, kept_mills, parts_of, sign_at, turn_of
from tests.case import Case
from tests.samples import BARE, EDGES, EMPTY, GREAT, ODD, SQUARE, WRONG, changed
from wheelmarks.errors import NoSetting, NoWheel, Twice
from wheelmarks.mills import is_mill, is_setting, shows_at
from wheelmarks.meets import (
    a_choice, apart_pair, can_meet, first_from, greatest_lots, is_choice, is_unmet, meet_mill, meets_in, series,
    surely_meet, unmet,
)
from wheelmarks.settings import least_setting

MILL = (
    (("a", 12, 1), ("b", 8, 1), ("c", 6, 1)),
    (("p", "a", "b", 3, 12), ("q", "b", "c", 2, 4), ("r", "a", "c", 5, 6)),
)
SETTING = (("a", 0), ("b", 3), ("c", 5))
TRIO = ((("x", 3, 2), ("y", 3, 2), ("z", 3, 2)), (("m", "x", "y", 1, 3), ("n", "y", "z", 1, 3)))
LOOSE = ((("a", 4, 1), ("b", 6, 3)), ())
RARE = ((("a", 4, 1), ("b", 6, 1)), ())
ROUNDS = ((4, 1), (6, 1), (3, 2), (4, 2), (6, 3), (2, 2), (6, 4), (1, 1))


class Examples(Case):
    def test_mill(self):
        told = (
            can_meet(MILL, ("a", "b")), can_meet(MILL, ("b", "c")), surely_meet(MILL, ("b", "c")), greatest_lots(MILL),
            apart_pair(MILL, (("a", 0), ("b", 0), ("c", 0))), is_choice(MILL, ("b", "c"), (("b", 0), ("c", 0))),
        )
        self.assertEqual(told, (False, True, True, [("a",), ("b", "c")], ("a", "b"), True))
        told = (
            series(MILL, SETTING, ("b", "c")), first_from(MILL, SETTING, ("b", "c"), 12),
            meets_in(MILL, SETTING, ("b", "c"), -13, 35), series(MILL, SETTING, ("a", "b")),
            first_from(MILL, SETTING, ("a", "c"), 0),
        )
        self.assertEqual(told, ([(11, 24)], 35, 3, [], None))

    def test_trio(self):
        told = [can_meet(TRIO, some) for some in (("x", "y"), ("x", "z"), ("y", "z"), ("x", "y", "z"))]
        self.assertEqual(told, [True, True, True, False])
        told = a_choice(TRIO, ("x", "y")), apart_pair(TRIO, (("x", 1), ("y", 0), ("z", 0))), greatest_lots(TRIO)
        self.assertEqual(told, ((("x", 1), ("y", 0)), ("x", "z"), [("x", "y"), ("x", "z"), ("y", "z")]))

    def test_loose_and_rare(self):
        some = ("a", "b")
        told = (
            surely_meet(LOOSE, some), unmet(LOOSE, some), surely_meet(RARE, some),
            is_unmet(RARE, some, unmet(RARE, some)), is_unmet(RARE, some, (("a", 1), ("b", 0))),
            is_unmet(RARE, some, (("a", 2), ("b", 0))),
        )
        self.assertEqual(told, (True, None, False, True, True, False))

    def test_meet_mill(self):
        self.assertEqual(meet_mill(LOOSE, (("a", 0), ("b", 2)), "tick", ("m", "n")), (
            (("a", 4, 1), ("b", 6, 3), ("tick", 1, 1)), (("m", "a", "tick", 0, 4), ("n", "b", "tick", 2, 6)),
        ))
        self.raises(NoWheel, {"name": "d"}, can_meet, MILL, ("a", "d"))


class Errors(Case):
    def test_no_wheel_first(self):
        for some, name in ((("a", "y", "z"), "y"), (("",), ""), (("", "a"), ""), (("p",), "p")):
            for function, *more in ((can_meet,), (a_choice,), (is_choice, None), (surely_meet,), (unmet,), (is_unmet, 1)):
                self.raises(NoWheel, {"name": name}, function, WRONG, some, *more)
            for function, *more in ((series,), (first_from, 0), (meets_in, 5, 4)):
                self.raises(NoWheel, {"name": name}, function, WRONG, SETTING, some, *more)
            choice = tuple((wheel, 0) for wheel in some)
            self.raises(NoWheel, {"name": name}, apart_pair, WRONG, choice)
            self.raises(NoWheel, {"name": name}, meet_mill, WRONG, choice, "a", ("p", "q", "r")[:len(choice)])

    def test_no_setting(self):
        for mill in (WRONG, SQUARE):
            for some in ((), ("a",), ("a", "b")):
                for function, *more in ((can_meet,), (a_choice,), (is_choice, ()), (surely_meet,), (unmet,), (is_unmet, 1)):
                    self.raises(NoSetting, {}, function, mill, some, *more)
                self.raises(NoSetting, {}, apart_pair, mill, tuple((wheel, 0) for wheel in some))
            self.raises(NoSetting, {}, greatest_lots, mill)

    def test_none_with_a_setting_handed_in(self):
        self.assertEqual(series(WRONG, SETTING, ("b", "c")), [(11, 24)])
        self.assertEqual(first_from(WRONG, SETTING, (), -5), -5)
        self.assertEqual(meets_in(WRONG, SETTING, ("a",), 0, 12), 2)
        told = meet_mill(WRONG, (("a", 0),), "d", ("x",))
        self.assertEqual(told, (WRONG[0] + (("d", 1, 1),), WRONG[1] + (("x", "a", "d", 0, 12),)))

    def test_twice(self):
        choice = (("a", 0), ("c", 0))
        self.raises(Twice, {"name": "b"}, meet_mill, MILL, choice, "b", ("p", "q"))
        self.raises(Twice, {"name": "q"}, meet_mill, MILL, choice, "d", ("o", "q"))
        self.raises(Twice, {"name": "p"}, meet_mill, MILL, choice, "p", ("p", "q"))
        self.assertIs(is_mill(meet_mill(MILL, choice, "p", ("a", "b"))), True)


class Edges(Case):
    def test_none_and_one(self):
        for mill in (EMPTY, BARE, MILL, EDGES):
            home = least_setting(mill)
            self.assertEqual((can_meet(mill, ()), a_choice(mill, ()), is_choice(mill, (), ())), (True, (), True))
            self.assertEqual((surely_meet(mill, ()), unmet(mill, ()), apart_pair(mill, ())), (True, None, None))
            self.assertIs(is_unmet(mill, (), home), False)
            self.assertEqual((series(mill, home, ()), first_from(mill, home, (), GREAT)), ([(0, 1)], GREAT))
            self.assertEqual((meets_in(mill, home, (), -3, 3), meets_in(mill, home, (), 3, -3)), (7, 0))
            for name, turn, shown in mill[0]:
                self.assertEqual((can_meet(mill, (name,)), surely_meet(mill, (name,)), unmet(mill, (name,))),
                                 (True, True, None))
                begin = dict(home)[name]
                ticks = sorted(((begin + at) % turn, turn) for at in range(shown))
                self.assertEqual(series(mill, home, (name,)), ticks)
        self.assertEqual((greatest_lots(EMPTY), greatest_lots(BARE)), ([()], [("a", "b", "c")]))
        self.assertEqual(meet_mill(EMPTY, (), "t", ()), ((("t", 1, 1),), ()))

    def test_what_is_counted(self):
        some = ("b", "c")
        for first, last, many in (
            (11, 11, 1), (12, 34, 0), (11, 35, 2), (35, 11, 0), (11, 10, 0), (-13, -13, 1), (-12, 10, 0),
            (-GREAT * 24, GREAT * 24 - 1, 2 * GREAT),
        ):
            self.assertEqual(meets_in(MILL, SETTING, some, first, last), many)
        self.assertEqual([first_from(MILL, SETTING, some, tick) for tick in (10, 11, 12, -14, -13)], [11, 11, 35, -13, -13])
        self.assertEqual(meets_in(MILL, SETTING, ("a", "b"), -GREAT, GREAT), 0)

    def test_numbers_are_great(self):
        wheels = (("a", GREAT, 4), ("b", GREAT - 1, 4), ("c", GREAT, 1), ("d", GREAT, 4))
        mill = (wheels, (("p", "a", "c", 3, 0), ("q", "d", "c", -GREAT, GREAT)))
        home = least_setting(mill)
        self.assertEqual(series(mill, home, ("a", "c")), [(3, GREAT)])
        self.assertEqual(first_from(mill, home, ("a", "c"), 4 - 5 * GREAT), 3 - 4 * GREAT)
        self.assertEqual(len(series(mill, home, ("a", "b"))), 16)
        self.assertTrue(all(dial == GREAT * (GREAT - 1) for _, dial in series(mill, home, ("a", "b"))))
        self.assertEqual((surely_meet(mill, ("a", "b")), surely_meet(mill, ("a", "c"))), (True, True))
        self.assertEqual(greatest_lots(mill), [("a", "b", "c", "d")])
        self.assertEqual(a_choice(mill, ("a", "c", "d")), (("a", 3), ("c", 0), ("d", 0)))
        free = (wheels, ())
        self.assertIs(surely_meet(free, ("a", "c")), False)
        self.assertIs(is_unmet(free, ("a", "c"), unmet(free, ("a", "c"))), True)
        one = tuple((name, GREAT, 1) for name in "abcdefgh")
        tied = tuple((name, name, other, -GREAT, GREAT) for name, other in zip("abcdefg", "bcdefgh"))
        self.assertIs(surely_meet((one, tied), tuple("abcdefgh")), True)
        self.assertIs(surely_meet((one, tied[1:]), tuple("abcdefgh")), False)
        self.assertIs(can_meet((one, tied[1:]), tuple("abcdefgh")), True)
        self.assertEqual(a_choice((one, ()), tuple("abcdefgh")), tuple((name, 0) for name in "abcdefgh"))

    def test_lots_of_eight(self):
        for turn in (2, 3, 5, 7):
            wheels = tuple((name, turn, min(turn, 4)) for name in "abcdefgh")
            ties = tuple((name, name, other, turn - 1, turn) for name, other in zip("abcdefg", "bcdefgh"))
            lots = greatest_lots((wheels, ties))
            self.assertEqual(lots, sorted(lots))
            self.assertTrue(all(can_meet((wheels, ties), lot) for lot in lots))
            ought = [tuple(name for at, name in enumerate("abcdefgh") if (tick + at) % turn < min(turn, 4))
                     for tick in range(turn)]
            ought = sorted({lot for lot in ought if not any(set(lot) < set(other) for other in ought)})
            self.assertEqual(lots, ought)


class GoneThrough(Case):
    def every(self, mill, number):
        """For each SETTING and tick up to the number the places at which the WHEELS show."""
        found = []
        for begun in begins_up_to(mill, number):
            ticks = [{wheel[0]: sign_at(wheel, begun[wheel[0]], tick) for wheel in mill[0]} for tick in range(number)]
            found.append((as_begins(begun), ticks))
        return found

    def check_can(self, mill, some, found):
        wheels = {wheel[0]: wheel for wheel in mill[0]}
        shown = {tuple(tick[name] for name in some) for _, ticks in found for tick in ticks}
        shown = {row for row in shown if None not in row}
        self.assertIs(can_meet(mill, some), len(shown) > 0)
        choice = a_choice(mill, some)
        self.assertIs(choice is None, not shown)
        self.assertIs(is_choice(mill, some, choice), choice is not None)
        for places in itertools.product(*[range(wheels[name][2]) for name in some]):
            thing = tuple(zip(some, places))
            self.assertIs(is_choice(mill, some, thing), places in shown)
            pairs = [
                (one, other) for one, other in itertools.combinations(some, 2)
                if not any(tick[one] == dict(thing)[one] and tick[other] == dict(thing)[other]
                           for _, ticks in found for tick in ticks)
            ]
            self.assertEqual(apart_pair(mill, thing), min(pairs, default=None))
            self.assertIs(pairs == [], places in shown)
        return len(shown) > 0

    def check_surely(self, mill, some, found):
        met = [any(all(tick[name] is not None for name in some) for tick in ticks) for _, ticks in found]
        self.assertIs(surely_meet(mill, some), all(met), (mill, some))
        setting = unmet(mill, some)
        self.assertIs(setting is None, all(met))
        self.assertIs(is_unmet(mill, some, setting), setting is not None)
        # Begins up to the number keep dials 0 up to the number alone.
        if not any(saying[4] == 0 for saying in mill[1]):
            for (begins, _), is_met in zip(found, met):
                self.assertIs(is_unmet(mill, some, begins), not is_met)

    def check_ticks(self, mill, some, found):
        turn = math.lcm(*[wheel[1] for wheel in mill[0] if wheel[0] in some])
        for begins, ticks in found[:20]:
            right = [at for at, tick in enumerate(ticks) if all(tick[name] is not None for name in some)]
            number = len(ticks)
            self.assertEqual(series(mill, begins, some), [(at, turn) for at in right if at < turn])
            for tick in (0, 3, number - 1, -5, 1 - number):
                behind = [at + way * number for at in right for way in range(-6, 7) if at + way * number >= tick]
                self.assertEqual(first_from(mill, begins, some, tick), min(behind, default=None))
                for last in (0, 4, number - 2, -3):
                    ought = [at for at in range(tick, last + 1) if at % number in right]
                    self.assertEqual(meets_in(mill, begins, some, tick, last), len(ought))

    def test_small_mills(self):
        source = random.Random(61)
        for wheels, sayings, dials in ((3, 3, (0, 2, 3, 4)), (3, 3, (2, 3, 6)), (2, 1, (0, 2, 3)), (2, 0, (1,)), (3, 2, (2, 3))):
            for mill, _ in kept_mills(source, 7, wheels, sayings, dials, ROUNDS):
                names = [wheel[0] for wheel in mill[0]]
                found = self.every(mill, turn_of(mill, *[wheel[1] for wheel in mill[0]]) // 2)
                can = [some for some in parts_of(names) if self.check_can(mill, some, found)]
                most = [some for some in can if not any(set(some) < set(other) for other in can)]
                self.assertEqual(greatest_lots(mill), sorted(most))
                for some in parts_of(names):
                    if len(some) <= 2 or all(wheel[2] == 1 for wheel in mill[0]):
                        self.check_surely(mill, some, found)
                    self.check_ticks(mill, some, found)

    def test_of_one_tick_each(self):
        source = random.Random(62)
        sure = set()
        for mill, _ in kept_mills(source, 25, 3, 3, (2, 4, 4), ((4, 1), (2, 1))):
            found = self.every(mill, 4)
            for some in parts_of("abc"):
                self.check_surely(mill, some, found)
                pairs = [surely_meet(mill, pair) for pair in itertools.combinations(some, 2)]
                self.assertIs(surely_meet(mill, some), all(pairs))
            sure.add(surely_meet(mill, ("a", "b", "c")))
        self.assertEqual(sure, {True, False})

    def test_settings_of_meet_mill(self):
        for mill, _ in kept_mills(random.Random(63), 10, 2, 2, (2, 3), ((4, 2), (3, 1), (6, 3))):
            number = turn_of(mill, 12) // 2
            for choice in ((("a", 0), ("b", 0)), (("a", mill[0][0][2] - 1), ("b", 0)), (("b", mill[0][1][2] - 1),)):
                met = meet_mill(mill, choice, "at", tuple("yz"[:len(choice)]))
                self.assertIs(is_mill(met), True)
                self.assertEqual([wheel[0] for wheel in met[0]], ["a", "at", "b"])
                told = {as_begins(begun) for begun in begins_up_to(met, number)}
                ought = {
                    as_begins({**dict(begins), "at": at})
                    for begins, ticks in self.every(mill, number) for at, tick in enumerate(ticks)
                    if all(tick[name] == place for name, place in choice)
                }
                self.assertEqual(told, ought)


class Things(Case):
    def test_choices(self):
        for mill, some in ((TRIO, ("x", "z")), (LOOSE, ("a", "b")), (EDGES, ("p", "q", "qq")), (BARE, ())):
            choice = a_choice(mill, some)
            wheels = {wheel[0]: wheel for wheel in mill[0]}
            for thing in (*changed(choice), *ODD):
                right = repr(thing) in {
                    repr(tuple(zip(some, places)))
                    for places in itertools.product(*[range(wheels[name][2]) for name in some])
                }
                right = right and apart_pair(mill, thing) is None
                self.assertIs(is_choice(mill, some, thing), right, repr(thing)[:200])

    def test_unmet(self):
        for thing in (*changed(unmet(RARE, ("a", "b"))), *ODD):
            right = is_setting(RARE, thing) and not any(
                shows_at(RARE[0][0], thing[0][1], tick) and shows_at(RARE[0][1], thing[1][1], tick) for tick in range(12)
            )
            self.assertIs(is_unmet(RARE, ("a", "b"), thing), right, repr(thing)[:200])
            self.assertIs(is_unmet(LOOSE, ("a", "b"), thing), False)


if __name__ == "__main__":
    unittest.main()
