import itertools
import math
import random
import unittest

from tests.brute import begins_up_to, class_up_to, fine_turn, is_bad, every_ring, lates_up_to, parts_of
from tests.case import Case
from tests.samples import BARE, EDGES, EMPTY, GREAT, MILL, ODD, SQUARE, TWO, WRONG, changed
from wheelmarks.bridges import (
    agree, bridged, clash_ring, common_wheels, is_bridge, is_clash_ring, joined, letter, mill_by, split_at, sure_across,
    told_more,
)
from wheelmarks.errors import NoSetting, NoWheel, Twice, Unfit
from wheelmarks.mills import is_mill
from wheelmarks.sures import sure_late

OTHER = ((("c", 6, 1), ("d", 10, 1)), (("s", "c", "d", 1, 8),))
HERE = (SQUARE[0], SQUARE[1][:2])
THERE = (SQUARE[0], SQUARE[1][2:])


def ends_of(mill):
    return ["", *[wheel[0] for wheel in mill[0]]]


def told_mill(source, names, marks, dials, begins):
    """A MILL of these WHEELS whose SAYINGS these begins keep."""
    told = []
    for mark in marks:
        one, other = source.sample(["", *names], 2)
        dial = source.choice(dials)
        told.append((mark, one, other, begins[other] - begins[one] + source.randrange(-1, 2) * dial, dial))
    return tuple((name, 6, 1) for name in names), tuple(told)


def some_begins(source, names):
    return {"": 0, **{name: source.randrange(-2, 3) for name in names}}


def pairs_of_mills(seed, many):
    """Pairs of MILLS that have a SETTING each, with WHEELS in common or without."""
    source = random.Random(seed)
    for names, others, dials in (
        ("abc", "bcd", (2, 3)), ("ab", "ab", (2, 4)), ("ab", "cd", (2, 4)), ("ab", "abc", (0, 2)), ("abc", "c", (2, 4)),
        ("a", "", (3,)),
    ):
        for _ in range(many):
            begins = some_begins(source, set(names + others))
            others_begins = begins if source.randrange(3) else some_begins(source, set(names + others))
            yield (told_mill(source, names, "klm"[:len(names)], dials, begins),
                   told_mill(source, others, "pqr"[:len(others)], dials, others_begins))


def in_one(one, other):
    return tuple(tuple(sorted(set(first) | set(second))) for first, second in zip(one, other))


class Errors(Case):
    TWO_MILLS = ((agree,), (clash_ring,), (is_clash_ring, None), (told_more,))

    def test_no_wheel_first(self):
        unlike = ((("a", 5, 1),), ())
        for one, other in ((MILL, OTHER), (WRONG, WRONG), (MILL, unlike)):
            for near, far, name in (("x", "y", "x"), ("a", "y", "y"), ("", "b", "b"), ("p", "", "p")):
                if name in ends_of(other):
                    continue
                self.raises(NoWheel, {"name": name}, sure_across, one, other, near, far)
        self.raises(NoWheel, {"name": "d"}, sure_across, MILL, OTHER, "d", "c")
        for mill in (MILL, WRONG):
            for some, name in ((("a", "x", "z"), "x"), (("", "a"), ""), (("p",), "p")):
                for function in (letter, mill_by, split_at):
                    self.raises(NoWheel, {"name": name}, function, mill, some)
            for name in ("", "x", "p"):
                for function in (bridged, is_bridge):
                    self.raises(NoWheel, {"name": name}, function, mill, name)

    def test_no_setting(self):
        unlike = ((("a", 5, 1),), ())
        for one, other in ((WRONG, MILL), (MILL, WRONG), (SQUARE, SQUARE), (WRONG, unlike), (unlike, WRONG)):
            for function, *more in self.TWO_MILLS:
                self.raises(NoSetting, {}, function, one, other, *more)
            self.raises(NoSetting, {}, sure_across, one, other, "", "a")
        for function in (letter, mill_by):
            self.raises(NoSetting, {}, function, WRONG, ("a",))
            self.raises(NoSetting, {}, function, WRONG, ())
        for function in (bridged, is_bridge):
            self.raises(NoSetting, {}, function, WRONG, "b")
        self.assertEqual(split_at(WRONG, ()), (("a", "b", "c"),))

    def test_twice(self):
        clash = (
            ((("b", 8, 1), ("c", 5, 1)), (("p", "b", "c", 0, 1),), "b"),
            ((("c", 5, 1),), (), "c"),
            ((("c", 6, 2), ("d", 1, 1)), (), "c"),
            ((("a", 12, 1), ("b", 8, 2)), (("p", "a", "b", 15, 12), ("q", "", "a", 0, 1)), "p"),
            ((("a", 12, 1), ("b", 8, 2)), (("p", "b", "a", -3, 12),), "p"),
            ((("a", 12, 1),), (("q", "", "a", 0, 1), ("r", "a", "", 0, 1)), "q"),
        )
        for wheels, sayings, name in clash:
            for one, other in ((MILL, (wheels, sayings)), ((wheels, sayings), MILL)):
                self.raises(Twice, {"name": name}, joined, one, other)
                self.raises(Twice, {"name": name}, common_wheels, one, other)
                self.raises(Twice, {"name": name}, sure_across, one, other, "", "")
                for function, *more in self.TWO_MILLS:
                    self.raises(Twice, {"name": name}, function, one, other, *more)
        # joined and common_wheels ask for no SETTING.
        self.raises(Twice, {"name": "p"}, joined, WRONG, ((("a", 12, 1),), (("p", "a", "", 0, 1),)))
        self.assertEqual(joined(WRONG, WRONG), WRONG)
        self.assertEqual(common_wheels(WRONG, MILL[:1] + ((),)), ("a", "b", "c"))

    def test_unfit_last(self):
        for near, far in (("", ""), ("a", "a"), ("d", "")):
            self.raises(Unfit, {}, sure_across, HERE, THERE, near, far)
        self.raises(Unfit, {}, told_more, HERE, THERE)
        self.raises(Unfit, {}, told_more, THERE, HERE)


class Edges(Case):
    def test_the_same_mill(self):
        for mill in (MILL, EMPTY, BARE, EDGES):
            self.assertEqual((joined(mill, mill), common_wheels(mill, mill)), (mill, tuple(ends_of(mill)[1:])))
            self.assertEqual((agree(mill, mill), clash_ring(mill, mill), told_more(mill, mill)), (True, None, ()))
            for near, far in itertools.product(ends_of(mill), repeat=2):
                self.assertEqual(sure_across(mill, mill, near, far), sure_late(mill, near, far))

    def test_no_common_wheels(self):
        other = ((("x", 4, 1),), (("x", "x", "", 3, 0),))
        self.assertEqual((common_wheels(MILL, other), agree(MILL, other), told_more(MILL, other)), ((), True, ()))
        self.assertEqual(joined(MILL, other), (MILL[0] + other[0], MILL[1] + other[1]))
        self.assertEqual([sure_across(MILL, other, near, "x") for near in ("", "a")], [(-3, 0), (0, 1)])
        held = (MILL[0], MILL[1] + (("z", "", "a", 1, 6),))
        self.assertEqual(sure_across(held, other, "a", "x"), (2, 6))
        self.assertEqual((sure_across(held, other, "", ""), sure_across(held, other, "a", "")), ((0, 0), (5, 6)))
        self.assertEqual((joined(EMPTY, EMPTY), sure_across(EMPTY, EMPTY, "", "")), (EMPTY, (0, 0)))

    def test_near_and_far_are_one(self):
        self.assertEqual([sure_across(MILL, OTHER, near, "c") for near in "abc"], [(5, 12), (2, 12), (0, 0)])
        self.assertEqual(sure_across(OTHER, MILL, "d", "a"), (2, 4))

    def test_no_wheels_in_some(self):
        for mill in (MILL, EMPTY, BARE):
            self.assertEqual((letter(mill, ()), mill_by(mill, ())), ((), EMPTY))
        self.assertEqual(split_at(BARE, ()), (("a",), ("b",), ("c",)))
        self.assertEqual(split_at(MILL, ("a", "b", "c")), ())
        self.assertEqual(split_at(EMPTY, ()), ())

    def test_the_crank_joins_nothing(self):
        mill = (BARE[0], (("p", "", "a", 1, 4), ("q", "b", "", 2, 4), ("r", "b", "c", 0, 1)))
        self.assertEqual((split_at(mill, ()), split_at(mill, ("b",))), ((("a",), ("b", "c")), (("a",), ("c",))))
        self.assertEqual(letter(mill, ("a", "b")), (("", "a", 1, 4), ("", "b", 2, 4), ("a", "b", 1, 4)))
        self.assertEqual(bridged(mill, "b"), ())
        self.assertEqual(bridged(mill, "a"), ())

    def test_bridges_to_the_crank(self):
        mill = (BARE[0], (("p", "", "a", 1, 4), ("q", "a", "b", 2, 0), ("r", "c", "b", 0, 1), ("s", "b", "", 3, 2)))
        self.assertEqual((bridged(mill, "a"), is_bridge(mill, "a")), ((), False))
        mill = (mill[0], mill[1][:3])
        self.assertEqual((bridged(mill, "a"), is_bridge(mill, "a")), ((("", "b"),), True))

    def test_many_names(self):
        wheels = tuple((name, GREAT, 4) for name in "abcdefgh")
        row = tuple(("k" + other, one, other, GREAT, 0) for one, other in zip(["", *"abcdefg"], "abcdefgh"))
        own = mill_by((wheels, row), tuple("abcdefgh"))
        self.assertIs(is_mill(own), True)
        told = letter((wheels, row), tuple("abcdefgh"))
        self.assertEqual(len(told), 36)
        names = [*"abcdefghijklmnopqrstuvwxyz", *["a" + sign for sign in "abcdefghij"]]
        self.assertEqual(own[1], tuple(sorted((name, *four) for name, four in zip(names, told))))
        self.assertEqual(own[1][1], ("aa", "d", "e", GREAT, 0))

    def test_numbers_are_great(self):
        wheels = tuple((name, GREAT, 4) for name in "abcdefgh")
        row = tuple(("k" + other, one, other, -GREAT, GREAT) for one, other in zip("abcdefg", "bcdefgh"))
        more = (("x", "h", "", 5, 3 * GREAT), ("y", "a", "d", -3 * GREAT, 0), ("z", "", "b", 2, GREAT - 1))
        one, other = (wheels[:5], row[:4]), (wheels[1:], row[4:] + more[:1] + more[2:])
        self.assertEqual(common_wheels(one, other), ("b", "c", "d", "e"))
        # What 3 * GREAT tells of h goes up to GREAT back to e, and on to a.
        self.assertEqual(sure_across(one, other, "a", ""), (5, GREAT))
        self.assertEqual(sure_across(one, other, "", "h")[1], 3 * GREAT)
        clash = (wheels, row[4:] + (("w", "a", "h", 1, 10),))
        ring = clash_ring(one, clash)
        self.assertEqual((agree(one, clash), is_clash_ring(one, clash, ring), len(ring)), (False, True, 8))
        self.assertEqual(bridged((wheels, row), "h"), ())
        self.assertEqual(len(bridged((wheels, row), "d")), 12)


class GoneThrough(Case):
    def test_joined(self):
        for one, other in pairs_of_mills(121, 6):
            self.assertEqual(joined(one, other), in_one(one, other))
            self.assertIs(is_mill(joined(one, other)), True)
            self.assertEqual(common_wheels(one, other), tuple(sorted(set(ends_of(one)[1:]) & set(ends_of(other)))))

    def test_agree_and_across(self):
        told = set()
        for one, other in pairs_of_mills(122, 7):
            both = in_one(one, other)
            number = fine_turn(both)
            every = begins_up_to(both, number)
            self.assertIs(agree(one, other), every != [])
            ring = clash_ring(one, other)
            self.assertIs(ring is None, every != [])
            self.assertIs(is_clash_ring(one, other, ring), every == [])
            told.add((every != [], len(told_more(one, other)) > 0) if every else (False, False))
            if not every:
                self.raises(Unfit, {}, sure_across, one, other, "", "")
                self.raises(Unfit, {}, told_more, one, other)
                continue
            for near, far in itertools.product(ends_of(one), ends_of(other)):
                across = sure_across(one, other, near, far)
                self.assertEqual(class_up_to(across, number), lates_up_to(every, near, far, number))
                self.assertEqual(across[1], self.by_the_guarantee(one, other, near, far))
            self.check_told_more(one, other, number, every)
        self.assertEqual(told, {(True, True), (True, False), (False, False)})

    def by_the_guarantee(self, one, other, near, far):
        """The least multiple over common ends of the divisors of what the three parts of the road tell."""
        common = ["", *common_wheels(one, other)]
        both = joined(one, other)
        return math.lcm(*[
            math.gcd(sure_late(one, near, here)[1], sure_late(both, here, there)[1], sure_late(other, there, far)[1])
            for here in common for there in common
        ])

    def check_told_more(self, one, other, number, every):
        alone = begins_up_to(one, number)
        right = {}
        for near, far in itertools.combinations(ends_of(one), 2):
            lates = lates_up_to(every, near, far, number)
            if lates != lates_up_to(alone, near, far, number):
                right[near, far] = lates
        told = told_more(one, other)
        self.assertEqual([(near, far) for near, far, _, _ in told], sorted(right))
        for near, far, late, dial in told:
            self.assertEqual(class_up_to((late, dial), number), right[near, far])

    def fine_mills(self, seed, many):
        source = random.Random(seed)
        for names, marks, dials in (
            ("abcd", "klmn", (2, 3)), ("abc", "klmn", (2, 4)), ("ab", "kl", (0, 4)), ("abc", "", (1,)),
        ):
            for _ in range(many):
                yield told_mill(source, names, marks, dials, some_begins(source, names))

    def test_letters(self):
        for mill in self.fine_mills(123, 8):
            number = fine_turn(mill)
            every = begins_up_to(mill, number)
            for some in parts_of(ends_of(mill)[1:]):
                right = {}
                for near, far in itertools.combinations(["", *some], 2):
                    lates = lates_up_to(every, near, far, number)
                    if lates != set(range(number)):
                        right[near, far] = lates
                told = letter(mill, some)
                self.assertEqual([(near, far) for near, far, _, _ in told], sorted(right))
                for near, far, late, dial in told:
                    self.assertEqual(class_up_to((late, dial), number), right[near, far])
                own = mill_by(mill, some)
                self.assertEqual(own[0], tuple(wheel for wheel in mill[0] if wheel[0] in some))
                self.assertEqual([saying[0] for saying in own[1]], list("abcdefghijklmn"[:len(told)]))
                # Just what SETTINGS have at some WHEELS keeps the MILL of these.
                kept = {tuple(begun[name] for name in some) for begun in begins_up_to(own, number)}
                self.assertEqual(kept, {tuple(begun[name] for name in some) for begun in every})

    def test_split(self):
        sizes = set()
        for mill in self.fine_mills(124, 10):
            for some in parts_of(ends_of(mill)[1:]):
                left = [name for name in ends_of(mill)[1:] if name not in some]
                lots = [{name} for name in left]
                for _, one, other, _, _ in mill[1]:
                    if one in left and other in left:
                        both = [lot for lot in lots if one in lot or other in lot]
                        lots = [lot for lot in lots if lot not in both] + [set().union(*both)]
                told = split_at(mill, some)
                self.assertEqual(told, tuple(sorted(tuple(sorted(lot)) for lot in lots)))
                sizes.add(len(told))
                self.check_apart(mill, some, told)
        self.assertEqual(sizes, {0, 1, 2, 3, 4})

    def check_apart(self, mill, some, lots):
        """What is sure of two WHEELS of unlike sets is so by some and the crank."""
        for first, second in itertools.permutations(lots, 2):
            for near, far in itertools.product(first, second):
                roads = [(near, here, there, far) for here in ("", *some) for there in ("", *some)]
                ways = [math.gcd(*[sure_late(mill, *pair)[1] for pair in zip(road, road[1:])]) for road in roads]
                self.assertEqual(math.lcm(*ways), sure_late(mill, near, far)[1])

    def test_bridges(self):
        found = 0
        for mill in self.fine_mills(125, 14):
            number = fine_turn(mill)
            every, full = begins_up_to(mill, number), set(range(number))
            for name in ends_of(mill)[1:]:
                fewer = (mill[0], tuple(saying for saying in mill[1] if name not in saying[1:3]))
                without = begins_up_to(fewer, number)
                right = [
                    (near, far) for near, far in itertools.combinations(ends_of(mill), 2) if name not in (near, far)
                    and lates_up_to(every, near, far, number) != full == lates_up_to(without, near, far, number)
                ]
                self.assertEqual((bridged(mill, name), is_bridge(mill, name)), (tuple(right), right != []))
                found += len(right)
        self.assertGreater(found, 10)


class Things(Case):
    def test_rings(self):
        for one, other in ((HERE, THERE), ((TWO[0], TWO[1][:2]), (TWO[0], TWO[1][2:])), (MILL, OTHER)):
            both = in_one(one, other)
            right = {repr(ring) for ring in every_ring(both) if is_bad(both, ring)}
            self.assertEqual(agree(one, other), not right)
            for ring in every_ring(both):
                for thing in changed(ring):
                    self.assertIs(is_clash_ring(one, other, thing), repr(thing) in right, repr(thing)[:200])
            for thing in ODD:
                self.assertIs(is_clash_ring(one, other, thing), False, repr(thing)[:200])


if __name__ == "__main__":
    unittest.main()
