import itertools
import math
import random
import unittest

from tests.brute import as_begins, begins_up_to, kept_mills, parts_of, sign_at, turn_of
from tests.case import Case
from tests.samples import BARE, EDGES, EMPTY, GREAT, ODD, SQUARE, WRONG, changed
from wheelmarks.errors import NoSetting, NoWheel, Unfit
from wheelmarks.mills import is_setting, shows_at
from wheelmarks.rules import (
    bare_stretch, broken_at, cores, holds, is_bare_stretch, is_broken_at, least_long, needless_ones, needless_others,
    silence,
)
from wheelmarks.settings import least_setting

MILL = ((("a", 2, 1), ("b", 4, 1), ("c", 4, 1)), (("p", "a", "b", 1, 2), ("q", "b", "c", 2, 4)))
HERE = (("a", 0), ("b", 1), ("c", 3))
ROUNDS = ((4, 1), (6, 1), (3, 2), (4, 2), (6, 3), (2, 1), (2, 2), (4, 3))


class Examples(Case):
    def test_holds(self):
        told = (
            holds(MILL, (), ("a", "b", "c")), holds(MILL, (), ("a", "b")), holds(MILL, ("a", "b"), ()),
            holds(MILL, ("a",), ("b", "c")),
        )
        self.assertEqual(told, (True, False, True, False))
        told = [is_broken_at(MILL, (), ("a", "b"), (HERE, tick)) for tick in (3, 4, 5, 7)]
        self.assertEqual((told, broken_at(MILL, ("b",), ("b", "c"))), ([True, False, False, True], None))

    def test_cores(self):
        told = (
            cores(MILL, (), ("a", "b", "c")), needless_others(MILL, (), ("a", "b", "c")),
            needless_ones(MILL, ("a", "b", "c"), ()),
        )
        self.assertEqual(told, ([("a", "b", "c")], (), ("a", "b", "c")))

    def test_silence(self):
        told = (
            silence(MILL, ("b", "c"), 3), silence(MILL, ("b",), 5), is_bare_stretch(MILL, ("b",), 3, (HERE, 2)),
            is_bare_stretch(MILL, ("b",), 3, (HERE, 3)),
        )
        self.assertEqual(told, (1, 3, True, False))

    def test_least_long(self):
        told = least_long(MILL, (), ("a", "b"), "b", 4), least_long(MILL, (), ("a", "b"), "b", 2)
        self.assertEqual(told, (3, None))
        self.raises(NoWheel, {"name": "y"}, cores, MILL, ("a", "y"), ("z",))
        self.raises(Unfit, {}, least_long, MILL, (), ("a",), "b", 1)


class Errors(Case):
    def test_no_wheel_first(self):
        both = ((holds,), (broken_at,), (is_broken_at, None), (needless_ones,), (needless_others,), (cores,))
        for function, *more in (*both, (least_long, "w", 3)):
            for ones, others, name in (
                (("a", "y"), ("x",), "y"), (("",), ("x",), ""), (("a",), ("b", "x", "z"), "x"), ((), ("",), ""),
                ((), ("p",), "p"),
            ):
                self.raises(NoWheel, {"name": name}, function, WRONG, ones, others, *more)
        self.raises(NoWheel, {"name": "w"}, least_long, WRONG, ("a",), ("b",), "w", 3)
        self.raises(NoWheel, {"name": ""}, least_long, MILL, ("a",), ("b",), "", 3)
        for function, *more in ((bare_stretch, 2), (is_bare_stretch, 2, None), (silence, 2)):
            self.raises(NoWheel, {"name": "x"}, function, WRONG, ("a", "x", "y"), *more)
            self.raises(NoWheel, {"name": ""}, function, MILL, ("",), *more)

    def test_no_setting(self):
        for mill in (WRONG, SQUARE):
            for ones, others in (((), ()), (("a",), ("b",)), (("a",), ("a",))):
                for function, *more in (
                    (holds,), (broken_at,), (is_broken_at, None), (needless_ones,), (needless_others,), (cores,),
                    (least_long, "c", 2),
                ):
                    self.raises(NoSetting, {}, function, mill, ones, others, *more)
                for function, *more in ((bare_stretch, 2), (is_bare_stretch, 2, None), (silence, 0)):
                    self.raises(NoSetting, {}, function, mill, others, *more)

    def test_unfit(self):
        for ones, others in (((), ()), (("a",), ("b",)), (("c",), ("a", "b"))):
            self.raises(Unfit, {}, least_long, MILL, ones, others, "c", 1)


class Edges(Case):
    def test_none_of_ones_and_of_others(self):
        for mill in (EMPTY, BARE, MILL, EDGES):
            self.assertIs(holds(mill, (), ()), False)
            self.assertIs(is_broken_at(mill, (), (), broken_at(mill, (), ())), True)
            self.assertEqual((cores(mill, (), ()), needless_ones(mill, (), ()), needless_others(mill, (), ())), ([], (), ()))
            self.assertIs(is_bare_stretch(mill, (), GREAT, bare_stretch(mill, (), GREAT)), True)
            self.assertEqual((silence(mill, (), 0), silence(mill, (), 7), silence(mill, (), GREAT)), (0, 7, GREAT))
            self.assertIs(is_broken_at(mill, (), (), (least_setting(mill), -GREAT)), True)

    def test_what_never_meets(self):
        self.assertEqual(cores(MILL, ("a", "b"), ("c",)), [()])
        self.assertEqual(needless_others(MILL, ("a", "b"), ("c",)), ("c",))
        self.assertEqual(needless_ones(MILL, ("a", "b", "c"), ("c",)), ("a", "b", "c"))
        self.assertEqual(needless_ones(MILL, ("a", "b"), ()), ())

    def test_common_wheels(self):
        for mill in (MILL, BARE, EDGES):
            for name in [wheel[0] for wheel in mill[0]]:
                self.assertIs(holds(mill, (name,), (name,)), True)
                self.assertIsNone(broken_at(mill, (name,), (name,)))
                self.assertEqual(least_long(mill, (name,), (name,), name, 4), 1)
        self.assertEqual(cores(BARE, ("a", "b"), ("a", "b", "c")), [("a",), ("b",)])
        self.assertEqual(needless_others(BARE, ("a", "b"), ("a", "c")), ("c",))
        self.assertEqual(needless_ones(BARE, ("a", "b"), ("a", "c")), ("b",))

    def test_longs(self):
        always = ((("a", 3, 3), ("b", 4, 2), ("c", 4, 2)), (("p", "b", "c", 2, 4),))
        self.assertIs(holds(always, (), ("a",)), True)
        self.assertEqual((silence(always, ("a",), 5), bare_stretch(always, ("a",), 1)), (0, None))
        self.assertIs(holds(always, (), ("b", "c")), True)
        self.assertEqual((least_long(always, (), ("b", "c"), "b", 4), silence(always, ("b",), 9)), (2, 2))
        self.assertEqual(least_long(always, (), ("a",), "a", 31), 3)
        self.assertIsNone(least_long(always, (), ("a",), "a", 2))
        self.assertEqual(least_long(always, ("b",), ("c",), "c", 4), 4)
        self.assertEqual(least_long(always, ("b", "c"), ("a",), "a", 3), 1)

    def test_numbers_are_great(self):
        wheels = (("a", GREAT, 4), ("b", GREAT, 4), ("c", GREAT - 1, 1), ("d", 2, 1))
        mill = (wheels, (("p", "a", "b", 2, GREAT), ("q", "a", "d", -GREAT, 0)))
        self.assertIs(holds(mill, ("a",), ("b",)), False)
        self.assertIs(is_broken_at(mill, ("a",), ("b", "c"), broken_at(mill, ("a",), ("b", "c"))), True)
        tight = (wheels, (("p", "a", "b", -1, GREAT), ("q", "a", "d", -GREAT, 0)))
        self.assertEqual(least_long(tight, ("a",), ("b",), "b", 31), 5)
        self.assertEqual((silence(mill, ("a",), 28), silence(mill, ("c", "d"), 3)), (28, 1))
        self.assertIs(is_bare_stretch(mill, ("a",), 28, bare_stretch(mill, ("a",), 28)), True)
        setting = least_setting(mill)
        self.assertIs(is_bare_stretch(mill, ("a",), GREAT - 4, (setting, 4)), True)
        self.assertIs(is_bare_stretch(mill, ("a",), GREAT - 3, (setting, 4)), False)
        self.assertIs(is_bare_stretch(mill, ("a",), 1, (setting, 3)), False)

    def test_ticks_of_the_crank_leave_none_bare(self):
        # n WHEELS of long 1, sure to the tick, that leave none of 2 ** n ticks bare leave none at all.
        names, rounds = "abcde", (2, 4, 8, 16, 16)
        wheels = tuple((name, turn, 1) for name, turn in zip(names, rounds))
        sayings = tuple((name, "", name, begin, 0) for name, begin in zip(names, (0, 1, 3, 7, 15)))
        mill = (wheels, sayings)
        self.assertIs(holds(mill, (), tuple(names)), True)
        self.assertEqual(cores(mill, (), tuple(names)), [tuple(names)])
        self.assertEqual(needless_others(mill, (), tuple(names)), ())
        broken = broken_at(mill, (), tuple(names[:4]))
        self.assertEqual((broken[1] % 16, broken[0]), (15, tuple(zip(names, (0, 1, 3, 7, 15)))))


class GoneThrough(Case):
    def every(self, mill, number):
        """Each SETTING up to the number, with the set of those that show at each tick."""
        found = []
        for begun in begins_up_to(mill, number):
            row = [
                {wheel[0] for wheel in mill[0] if sign_at(wheel, begun[wheel[0]], tick) is not None}
                for tick in range(number)
            ]
            found.append((as_begins(begun), row))
        return found

    def is_kept(self, found, ones, others):
        return all(set(others) & shown for _, row in found for shown in row if set(ones) <= shown)

    def check_rule(self, mill, ones, others, found):
        right = self.is_kept(found, ones, others)
        self.assertIs(holds(mill, ones, others), right, (mill, ones, others))
        thing = broken_at(mill, ones, others)
        self.assertIs(thing is None, right)
        self.assertIs(is_broken_at(mill, ones, others, thing), not right)
        free = [name for name in ones if right and self.is_kept(found, set(ones) - {name}, others)]
        self.assertEqual(needless_ones(mill, ones, others), tuple(free))
        free = [name for name in others if right and self.is_kept(found, ones, set(others) - {name})]
        self.assertEqual(needless_others(mill, ones, others), tuple(free))
        kept = [some for some in parts_of(others) if self.is_kept(found, ones, some)]
        least = [some for some in kept if not any(set(other) < set(some) for other in kept)]
        self.assertEqual(cores(mill, ones, others), sorted(least))

    def check_papers(self, mill, ones, others, found):
        if any(saying[4] == 0 for saying in mill[1]):
            return
        for begins, row in found[:12]:
            for tick, shown in enumerate(row):
                right = set(ones) <= shown and not set(others) & shown
                self.assertIs(is_broken_at(mill, ones, others, (begins, tick)), right)
                self.assertIs(is_broken_at(mill, ones, others, (begins, tick - 5 * len(row))), right)
                for many in (1, 2, 4):
                    bare = not any(set(others) & row[(tick + at) % len(row)] for at in range(many))
                    self.assertIs(is_bare_stretch(mill, others, many, (begins, tick)), bare)

    def check_silence(self, mill, others, found):
        number = len(found[0][1])
        most = 0
        for _, row in found:
            twice = "".join("x" if set(others) & shown else "." for shown in row * 3)
            most = max(most, max(map(len, twice.split("x"))))
        for bound in (0, 1, 2, 5):
            self.assertEqual(silence(mill, others, bound), min(bound, most))
        for many in (1, 2, 3, 5):
            thing = bare_stretch(mill, others, many)
            self.assertIs(thing is None, many > most, (mill, others, many, number))
            self.assertIs(is_bare_stretch(mill, others, many, thing), many <= most)

    def check_long(self, mill, ones, others):
        for name in others:
            turn = dict((wheel[0], wheel[1]) for wheel in mill[0])[name]
            right = []
            for shown in range(1, turn + 1):
                own = (tuple((*wheel[:2], shown if wheel[0] == name else wheel[2]) for wheel in mill[0]), mill[1])
                number = turn_of(own, *[wheel[1] for wheel in own[0]]) // 2
                if self.is_kept(self.every(own, number), ones, others):
                    right.append(shown)
            for most in (1, 2, 3, turn, turn + 3):
                self.assertEqual(least_long(mill, ones, others, name, most), min(right, default=None) if
                                 right and right[0] <= most else None)

    def mills(self):
        source = random.Random(71)
        for wheels, sayings, dials in ((2, 1, (2, 3)), (3, 3, (2, 3, 4)), (3, 4, (0, 2, 4)), (2, 0, (1,)), (3, 3, (4, 6))):
            for mill, _ in kept_mills(source, 7, wheels, sayings, dials, ROUNDS):
                if math.lcm(*[wheel[1] for wheel in mill[0]]) <= 12:
                    yield mill, self.every(mill, turn_of(mill, *[wheel[1] for wheel in mill[0]]) // 2)

    def test_rules(self):
        told = set()
        for mill, found in self.mills():
            names = [wheel[0] for wheel in mill[0]]
            for ones, others in itertools.product(parts_of(names), repeat=2):
                self.check_rule(mill, ones, others, found)
                told.add((holds(mill, ones, others), len(ones), len(others)))
            self.check_papers(mill, (), ("a",), found)
            self.check_papers(mill, ("a",), ("b",), found)
        self.assertTrue({(True, 2, 1), (False, 2, 1), (True, 0, 2), (False, 0, 2), (True, 0, 3)} <= told)

    def test_silence(self):
        for mill, found in self.mills():
            for others in parts_of([wheel[0] for wheel in mill[0]])[1:]:
                self.check_silence(mill, others, found)

    def test_longs(self):
        for mill, _ in kept_mills(random.Random(72), 14, 2, 2, (2, 4), ((4, 1), (2, 1), (4, 2), (3, 2))):
            for ones, others in (((), ("a", "b")), (("a",), ("b",)), ((), ("a",)), (("b",), ("a", "b"))):
                self.check_long(mill, ones, others)


class Things(Case):
    def test_moments(self):
        for mill, ones, others in ((MILL, (), ("a", "b")), (BARE, ("a",), ("b",)), (EDGES, (), ("p",)), (EMPTY, (), ())):
            wheels = {wheel[0]: wheel for wheel in mill[0]}
            for thing in (*changed(broken_at(mill, ones, others)), *ODD):
                fit = type(thing) is tuple and len(thing) == 2 and is_setting(mill, thing[0]) and type(thing[1]) is int
                shown = [name for name in wheels if fit and shows_at(wheels[name], dict(thing[0])[name], thing[1])]
                right = fit and set(ones) <= set(shown) and not set(others) & set(shown)
                self.assertIs(is_broken_at(mill, ones, others, thing), right, repr(thing)[:200])
                bare = fit and not set(others) & set(shown)
                self.assertIs(is_bare_stretch(mill, others, 1, thing), bare, repr(thing)[:200])


if __name__ == "__main__":
    unittest.main()
