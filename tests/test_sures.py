import itertools
import math
import random
import unittest

from tests.brute import begins_up_to, keeps, kept_mills, parts_of, sum_and_divisor, turn_of
from tests.case import Case
from tests.samples import BARE, EDGES, EMPTY, GREAT, MILLS, SQUARE, WRONG, changed
from wheelmarks.errors import NoSetting, NoWheel
from wheelmarks.mills import is_setting
from wheelmarks.rings import can_be_kept
from wheelmarks.sures import (
    all_ways, fewest_ways, hang_together, is_sure, is_sure_ways, is_unlike, is_way, sure_late, sure_lates, sure_ways,
    told_lots, unlike_settings,
)

MILL = (
    (("a", 12, 1), ("b", 8, 1), ("c", 6, 1), ("d", 5, 1)),
    (("p", "a", "b", 3, 12), ("q", "b", "c", 2, 4), ("r", "a", "c", 5, 6), ("s", "d", "", 7, 0)),
)
DIALS = (0, 1, 2, 3, 4, 6, 6)


def ends_of(mill):
    return ["", *[wheel[0] for wheel in mill[0]]]


def every_way(mill, one, other):
    ends = {name: (start, goal) for name, start, goal, _, _ in mill[1]}
    found = []
    for many in range(1, len(mill[0]) + 1):
        for chosen in itertools.permutations(ends, many):
            for ways in itertools.product((1, -1), repeat=many):
                moves = [ends[name] if way == 1 else ends[name][::-1] for name, way in zip(chosen, ways)]
                row = [one, *[goal for _, goal in moves]]
                joined = [start for start, _ in moves] == row[:-1]
                if joined and row[-1] == other and len(set(row)) == len(row):
                    found.append(tuple(zip(chosen, ways)))
    return sorted(found)


class Examples(Case):
    def test_late(self):
        told = [sure_late(MILL, *pair) for pair in (("a", "c"), ("c", "a"), ("", "d"), ("a", "d"), ("b", "b"))]
        self.assertEqual(told, [(5, 12), (7, 12), (-7, 0), (0, 1), (0, 0)])
        told = (
            sure_lates(MILL), is_sure(MILL, "a", "c", 17, 4), is_sure(MILL, "a", "c", 5, 24),
            is_sure(MILL, "a", "d", GREAT, 1),
        )
        lates = (("", "d", -7, 0), ("a", "b", 3, 12), ("a", "c", 5, 12), ("b", "c", 2, 12))
        self.assertEqual(told, (lates, True, False, True))

    def test_ways(self):
        told = (
            all_ways(MILL, "c", "a"), fewest_ways(MILL, "a", "c"), sure_ways(MILL, "a", "d"),
            is_sure_ways(MILL, "a", "c", ((("r", 1),),)),
        )
        ways = [(("q", -1), ("p", -1)), (("r", -1),)]
        self.assertEqual(told, (ways, ((("p", 1), ("q", 1)), (("r", 1),)), (), False))

    def test_unlike(self):
        first, second = (("a", 0), ("b", 3), ("c", 5), ("d", -7)), (("a", 2), ("b", 5), ("c", 19), ("d", -7))
        told = (
            is_unlike(MILL, "a", "c", 24, (first, second)), is_unlike(MILL, "a", "c", 8, (first, first)),
            unlike_settings(MILL, "a", "c", 6), is_unlike(MILL, "d", "a", 0, unlike_settings(MILL, "d", "a", 0)),
        )
        self.assertEqual(told, (True, False, None, True))

    def test_lots(self):
        self.assertEqual(hang_together(MILL), (("", "d"), ("a", "b", "c")))
        self.assertEqual(told_lots(MILL), (("", "d"), ("a",), ("b",), ("c",)))
        self.raises(NoWheel, {"name": "p"}, sure_late, MILL, "a", "p")


class Errors(Case):
    CALLS = (
        (sure_late,), (is_sure, 1, 2), (sure_ways,), (is_sure_ways, ()), (fewest_ways,), (unlike_settings, 2),
        (is_unlike, 2, None),
    )

    def test_no_wheel_ahead_of_no_setting(self):
        for function, *more in (*self.CALLS, (all_ways,), (is_way, ())):
            self.raises(NoWheel, {"name": "y"}, function, WRONG, "y", "z", *more)
            self.raises(NoWheel, {"name": "z"}, function, WRONG, "a", "z", *more)
            self.raises(NoWheel, {"name": "p"}, function, MILL, "p", "p", *more)
            self.raises(NoWheel, {"name": "a"}, function, EMPTY, "", "a", *more)

    def test_no_setting(self):
        for function, *more in self.CALLS:
            for one, other in (("a", "b"), ("b", ""), ("a", "a"), ("", "")):
                self.raises(NoSetting, {}, function, WRONG, one, other, *more)
        for function in (sure_lates, told_lots):
            self.raises(NoSetting, {}, function, WRONG)
            self.raises(NoSetting, {}, function, SQUARE)

    def test_none_without_a_setting(self):
        self.assertEqual(all_ways(WRONG, "b", "a"), [
            (("p", -1),), (("q", 1), ("r", -1)), (("q", 1), ("t", 1), ("s", 1)),
        ])
        self.assertIs(is_way(WRONG, "b", "a", (("q", 1), ("r", -1))), True)
        self.assertEqual(hang_together(WRONG), (("", "a", "b", "c"),))


class Edges(Case):
    def test_without_wheels_or_sayings(self):
        self.assertEqual((sure_late(EMPTY, "", ""), sure_lates(EMPTY), all_ways(EMPTY, "", "")), ((0, 0), (), []))
        self.assertEqual((hang_together(EMPTY), told_lots(EMPTY)), ((("",),), (("",),)))
        self.assertEqual((sure_late(BARE, "", "c"), sure_lates(BARE), all_ways(BARE, "a", "")), ((0, 1), (), []))
        alone = (("",), ("a",), ("b",), ("c",))
        self.assertEqual((hang_together(BARE), told_lots(BARE)), (alone, alone))
        self.assertEqual((sure_ways(BARE, "a", "b"), fewest_ways(BARE, "", "b")), ((), ()))
        self.assertIs(is_sure_ways(BARE, "a", "b", ()), True)

    def test_one_and_itself(self):
        for end in ("", "a", "d"):
            self.assertEqual(sure_late(MILL, end, end), (0, 0))
            self.assertEqual((all_ways(MILL, end, end), sure_ways(MILL, end, end)), ([], ()))
            self.assertEqual(fewest_ways(MILL, end, end), ())
            self.assertIs(is_sure_ways(MILL, end, end, ()), True)
            for thing in (((("p", 1), ("p", -1)),), ((),), [], None, ((("s", 1),),)):
                self.assertIs(is_sure_ways(MILL, end, end, thing), False)
                self.assertIs(is_way(MILL, end, end, thing), False)
            for dial in (0, 1, 7, GREAT):
                self.assertIsNone(unlike_settings(MILL, end, end, dial))
                self.assertIs(is_sure(MILL, end, end, 0, dial), True)
                self.assertIs(is_sure(MILL, end, end, 1, dial), dial == 1)

    def test_dial_0(self):
        self.assertIs(is_sure(MILL, "", "d", -7, 0), True)
        self.assertIs(is_sure(MILL, "", "d", -8, 0), False)
        self.assertIs(is_sure(MILL, "", "d", -7 + GREAT, GREAT), True)
        self.assertIs(is_sure(MILL, "a", "b", 3, 0), False)
        self.assertEqual(fewest_ways(MILL, "", "d"), ((("s", -1),),))
        self.assertIsNone(unlike_settings(MILL, "d", "", 0))

    def test_ways_that_tell_nothing(self):
        loose = (BARE[0], (("p", "a", "b", 3, 1),))
        self.assertEqual(fewest_ways(loose, "a", "b"), ())
        self.assertIs(is_sure_ways(loose, "a", "b", ((("p", 1),),)), True)
        self.assertIs(is_sure_ways(loose, "a", "b", ()), True)
        self.assertEqual(sure_lates(loose), ())
        self.assertEqual((hang_together(loose), told_lots(loose)[1:3]), ((("",), ("a", "b"), ("c",)), (("a",), ("b",))))

    def test_what_hangs_on_both_need_not_be_sure_over_it(self):
        mill = (BARE[0], (("p", "a", "b", 1, 2), ("q", "b", "c", 1, 3)))
        self.assertEqual(sure_late(mill, "a", "c"), (0, 1))

    def test_both_ends_held_by_the_crank(self):
        mill = (BARE[0], (("p", "", "a", 1, 4), ("q", "", "b", 2, 6), ("r", "a", "b", 1, 3), ("s", "", "c", 5, 0)))
        for one, other in itertools.permutations(["", "a", "b", "c"], 2):
            for dial in (0, 5, 7, 9, 24):
                pair = unlike_settings(mill, one, other, dial)
                sure = sure_late(mill, one, other)[1]
                if pair is None:
                    self.assertEqual(sure % dial if dial else sure, 0)
                else:
                    self.assertIs(is_unlike(mill, one, other, dial, pair), True)

    def test_numbers_are_great(self):
        table = {(one, other): sure_late(EDGES, one, other) for one in ends_of(EDGES) for other in ends_of(EDGES)}
        self.assertEqual((table["", "p"], table["q", "p"], table["", "q"]), ((0, GREAT), (-1, 0), (1, GREAT)))
        self.assertEqual((table["", "qq"], table["qq", "p"]), ((1, GREAT), (GREAT - 1, 0)))
        for dial in (GREAT - 1, GREAT + 1, 2 * GREAT, 0, 3):
            self.assertIs(is_unlike(EDGES, "p", "", dial, unlike_settings(EDGES, "p", "", dial)), True)
        self.assertIsNone(unlike_settings(EDGES, "p", "", GREAT // 8))
        self.assertIs(is_sure(EDGES, "", "p", -GREAT, GREAT), True)

    def test_great_mills(self):
        primes = (2, 3, 5, 7, 11, 13, 17, 19)
        wheels = tuple((name, GREAT, 4) for name in "abcdefgh")
        three = tuple((name, "", "a", 0, math.prod(primes[:5]) // prime) for name, prime in zip("klm", primes))
        more = tuple((name, "a", "b", 1, 2310 // prime) for name, prime in zip("nop", primes[2:]))
        mill = (wheels, three + more)
        self.assertEqual(len(all_ways(mill, "", "b")), 9)
        self.assertEqual(sure_late(mill, "", "b"), (1, 2310))
        self.assertEqual(fewest_ways(mill, "", "b"), ((("k", 1), ("n", 1)), (("l", 1), ("o", 1))))
        pairs = [("", "a"), *zip("abcdef", "bcdefg")]
        doubled = tuple(sorted(
            (mark + other, one, other, -GREAT, (GREAT - 1) * at)
            for one, other in pairs[:6] for at, mark in ((2, "k"), (3, "l"))
        ))
        mill = (wheels, doubled)
        self.assertEqual(len(all_ways(mill, "", "f")), 64)
        self.assertEqual(sure_late(mill, "f", ""), (6 * GREAT % (6 * GREAT - 6), 6 * GREAT - 6))
        self.assertEqual(len(fewest_ways((wheels, doubled[:4] + doubled[6:10]), "", "d")), 2)
        self.assertEqual(sure_ways(mill, "", "h"), ())


class GoneThrough(Case):
    def check_lates(self, mill, setting):
        number = turn_of(mill)
        every = begins_up_to(mill, number)
        told = []
        home = {"": 0, **dict(setting)}
        for one, other in itertools.product(ends_of(mill), repeat=2):
            lates = {(begun[other] - begun[one]) % number for begun in every}
            far = home[other] - home[one]
            dial = 0 if len(lates) == 1 else number // len(lates)
            ought = (far, 0) if dial == 0 else (far % dial, dial)
            self.assertEqual(sure_late(mill, one, other), ought, mill)
            if one < other and dial != 1:
                told.append((one, other, *ought))
            for up_to in range(8):
                for late in (-1, far, 3):
                    is_so = (ought[1] % up_to if up_to else ought[1]) == 0
                    right = is_so and ((late - far) % up_to if up_to else late - far) == 0
                    self.assertIs(is_sure(mill, one, other, late, up_to), right)
                pair = unlike_settings(mill, one, other, up_to)
                self.assertIs(pair is None, is_so)
                self.assertIs(is_unlike(mill, one, other, up_to, pair), not is_so)
        self.assertEqual(sure_lates(mill), tuple(told))
        self.assertEqual(told_lots(mill), self.lots(mill, lambda one, other: sure_late(mill, one, other)[1] == 0))

    def lots(self, mill, joined):
        ends = ends_of(mill)
        return tuple(sorted({tuple(other for other in ends if joined(one, other)) for one in ends}))

    def test_lates(self):
        source = random.Random(31)
        for wheels, sayings, dials in ((3, 4, (0, 1, 2, 3, 4)), (3, 6, (0, 2, 3, 6, 6)), (2, 3, DIALS), (1, 3, DIALS)):
            for mill, setting in kept_mills(source, 12, wheels, sayings, dials):
                self.check_lates(mill, setting)

    def test_ways(self):
        source = random.Random(32)
        for mill, _ in kept_mills(source, 40, 3, 5, DIALS):
            joined = {}
            for one, other in itertools.product(ends_of(mill), repeat=2):
                ways = every_way(mill, one, other)
                joined[one, other] = one == other or len(ways) > 0
                self.assertEqual(all_ways(mill, one, other), ways)
                self.assertTrue(all(is_way(mill, one, other, way) for way in ways))
                self.check_sure_ways(mill, one, other, ways)
            self.assertEqual(hang_together(mill), self.lots(mill, lambda one, other: joined[one, other]))

    def check_sure_ways(self, mill, one, other, ways):
        dial = sure_late(mill, one, other)[1]
        self.assertIs(is_sure_ways(mill, one, other, sure_ways(mill, one, other)), True)
        if one == other:
            return
        right = []
        for part in parts_of(ways):
            enough = math.lcm(*[sum_and_divisor(mill, way)[1] for way in part]) == dial
            self.assertIs(is_sure_ways(mill, one, other, part), enough)
            self.assertIs(is_sure_ways(mill, one, other, part[::-1]), enough and len(part) < 2)
            if enough:
                right.append((len(part), part))
        self.assertEqual(fewest_ways(mill, one, other), min(right)[1])
        self.assertTrue(all(is_sure(mill, one, other, *sum_and_divisor(mill, way)) for way in ways))

    def test_begins_go_on_exactly_if_each_two_do(self):
        for mill, _ in kept_mills(random.Random(33), 10, 3, 5, (0, 2, 3, 4)):
            number = turn_of(mill)
            every = {(begun["a"], begun["c"]) for begun in begins_up_to(mill, number)}
            table = {pair: sure_late(mill, *pair) for pair in itertools.combinations(("", "a", "c"), 2)}
            for first, last in itertools.product(range(number), repeat=2):
                begun = {"": 0, "a": first, "c": last}
                kept = [
                    (begun[other] - begun[one] - late) % (dial or number) == 0
                    for (one, other), (late, dial) in table.items()
                ]
                self.assertIs((first, last) in every, all(kept))


class Things(Case):
    def test_all_rows_of_steps(self):
        steps = list(itertools.product("pqrs", (1, -1)))
        rows = [row for many in range(5) for row in itertools.product(steps, repeat=many)]
        for one, other in (("a", "c"), ("b", "a"), ("", "d"), ("d", "a")):
            right = every_way(MILL, one, other)
            self.assertEqual(sorted(row for row in rows if is_way(MILL, one, other, row)), right)
        joined = (MILL[0], MILL[1] + (("t", "a", "", 0, 1),))
        right = every_way(joined, "", "b")
        for row in rows:
            self.assertIs(is_way(joined, "", "b", row + (("p", 1),)), row + (("p", 1),) in right)

    def test_ways(self):
        for mill, pair in ((MILL, ("a", "c")), (MILL, ("", "d")), (EDGES, ("q", "")), (WRONG, ("b", ""))):
            right = {repr(way) for way in every_way(mill, *pair)}
            self.assertTrue(right)
            for way in every_way(mill, *pair):
                for thing in changed(way):
                    self.assertIs(is_way(mill, *pair, thing), repr(thing) in right, repr(thing)[:200])

    def test_sure_ways(self):
        for mill, pair in ((MILL, ("a", "c")), (MILL, ("d", "")), (EDGES, ("qq", "p"))):
            ways = every_way(mill, *pair)
            dial = sure_late(mill, *pair)[1]
            right = {
                repr(part) for part in parts_of(ways)
                if math.lcm(*[sum_and_divisor(mill, way)[1] for way in part]) == dial
            }
            for thing in changed(fewest_ways(mill, *pair)):
                self.assertIs(is_sure_ways(mill, *pair, thing), repr(thing) in right, repr(thing)[:200])

    def test_unlike(self):
        pair = unlike_settings(MILL, "a", "b", 5)
        for thing in changed(pair):
            right = (
                type(thing) is tuple and len(thing) == 2 and all(is_setting(MILL, setting) for setting in thing)
                and (thing[1][1][1] - thing[1][0][1] - thing[0][1][1] + thing[0][0][1]) % 5 != 0
            )
            self.assertIs(is_unlike(MILL, "a", "b", 5, thing), right, repr(thing)[:200])

    def test_samples(self):
        for mill in MILLS:
            if can_be_kept(mill):
                for one, other in itertools.product(ends_of(mill), repeat=2):
                    for dial in (0, 1, 2, 5, GREAT):
                        pair = unlike_settings(mill, one, other, dial)
                        self.assertIs(is_unlike(mill, one, other, dial, pair), pair is not None)
                        self.assertTrue(pair is None or all(keeps(own, told) for own in pair for told in mill[1]))


if __name__ == "__main__":
    unittest.main()
