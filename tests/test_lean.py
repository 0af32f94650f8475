import itertools
import random
import unittest

from tests.brute import as_begins, begins_up_to, keeps, kept_mills, parts_of, turn_of
from tests.case import Case
from tests.samples import BARE, EDGES, EMPTY, GREAT, ODD, SQUARE, WRONG, changed
from wheelmarks.errors import NoSaying, NoSetting, Unfit
from wheelmarks.lean import (
    all_lean, fewest_sayings, is_lean, is_lean_set, is_loose_setting, is_unlike_by, least_dials, loose_setting,
    needless_sayings, same_mills, smaller_dial, unlike_by,
)
from wheelmarks.mills import is_mill, is_setting
from wheelmarks.rings import can_be_kept

MILL = (
    (("a", 12, 1), ("b", 8, 1), ("c", 6, 1)),
    (("p", "a", "b", 3, 12), ("q", "b", "c", 2, 4), ("r", "a", "c", 5, 6)),
)
TWO = ((("a", 6, 1), ("b", 6, 1)), (("x", "a", "b", 1, 6), ("y", "a", "b", 1, 2), ("z", "a", "b", 1, 3)))
DIALS = (0, 1, 2, 3, 4, 6)


def some_of(mill, names):
    return mill[0], tuple(saying for saying in mill[1] if saying[0] in names)


class Examples(Case):
    def test_mill(self):
        told = (
            needless_sayings(MILL), is_lean(MILL), [smaller_dial(MILL, name) for name in ("p", "q", "r")],
            least_dials(MILL)[1][2],
        )
        self.assertEqual(told, ((), True, [12, 4, 3], ("r", "a", "c", 2, 3)))
        told = (
            same_mills(MILL, least_dials(MILL)), unlike_by(MILL, least_dials(MILL)),
            is_loose_setting(MILL, "p", (("a", 0), ("b", 5), ("c", 11))),
        )
        self.assertEqual(told, (True, None, True))

    def test_two(self):
        told = (
            needless_sayings(TWO), all_lean(TWO), fewest_sayings(TWO), is_lean_set(TWO, ("x", "y")), least_dials(TWO)[1],
        )
        left = (("y", "a", "b", 1, 2), ("z", "a", "b", 1, 3))
        self.assertEqual(told, (("x", "y", "z"), [("x",), ("y", "z")], ("x",), False, left))
        told = (
            loose_setting(TWO, "x"), is_unlike_by(TWO, (TWO[0], ()), (("a", 0), ("b", 2))),
            same_mills((TWO[0], ()), (TWO[0], (("w", "", "a", 5, 1),))),
        )
        self.assertEqual(told, (None, True, True))
        self.raises(NoSaying, {"name": "s"}, smaller_dial, MILL, "s")


class Errors(Case):
    def test_no_saying_ahead_of_no_setting(self):
        for function, *more in ((loose_setting,), (is_loose_setting, None), (smaller_dial,)):
            for mill in (MILL, WRONG, EMPTY):
                for name in ("a", "", "zz"):
                    self.raises(NoSaying, {"name": name}, function, mill, name, *more)
            self.raises(NoSetting, {}, function, WRONG, "p", *more)
            self.raises(NoSetting, {}, function, SQUARE, "s", *more)

    def test_no_setting(self):
        for mill in (WRONG, SQUARE):
            for function, *more in (
                (needless_sayings,), (is_lean,), (all_lean,), (fewest_sayings,), (is_lean_set, None), (is_lean_set, ()),
                (least_dials,),
            ):
                self.raises(NoSetting, {}, function, mill, *more)

    def test_unfit(self):
        fewer = (MILL[0][:2], MILL[1][:1])
        for one, other in ((MILL, fewer), (fewer, MILL), (WRONG, SQUARE), (EMPTY, BARE)):
            self.raises(Unfit, {}, same_mills, one, other)
            self.raises(Unfit, {}, unlike_by, one, other)
            self.raises(Unfit, {}, is_unlike_by, one, other, None)


class Edges(Case):
    def test_without_sayings(self):
        for mill in (EMPTY, BARE):
            self.assertEqual((needless_sayings(mill), is_lean(mill), all_lean(mill)), ((), True, [()]))
            self.assertEqual((fewest_sayings(mill), least_dials(mill), same_mills(mill, mill)), ((), mill, True))
            self.assertIs(is_lean_set(mill, ()), True)
            self.assertIsNone(unlike_by(mill, mill))

    def test_dial_1_is_needless(self):
        mill = (BARE[0], (("p", "a", "b", 7, 1), ("q", "b", "", -2, 5)))
        self.assertEqual((needless_sayings(mill), smaller_dial(mill, "p"), smaller_dial(mill, "q")), (("p",), 1, 5))
        self.assertEqual(least_dials(mill), (BARE[0], (("q", "b", "", 3, 5),)))
        self.assertEqual(all_lean(mill), [("q",)])
        self.assertIsNone(loose_setting(mill, "p"))

    def test_dial_0(self):
        mill = (BARE[0], (("p", "a", "b", -7, 0), ("q", "b", "a", 7, 0), ("r", "a", "b", 1, 4), ("s", "a", "c", -1, 0)))
        self.assertEqual(needless_sayings(mill), ("p", "q", "r"))
        self.assertEqual([smaller_dial(mill, name) for name in "pqrs"], [1, 1, 1, 0])
        self.assertEqual(all_lean(mill), [("p", "s"), ("q", "s")])
        self.assertEqual(least_dials(mill), (BARE[0], (("q", "b", "a", 7, 0), ("s", "a", "c", -1, 0))))
        held = (BARE[0], (("p", "a", "b", -7, 0), ("r", "a", "b", 1, 4)))
        self.assertEqual([smaller_dial(held, name) for name in "pr"], [0, 1])
        self.assertIs(is_loose_setting(held, "p", loose_setting(held, "p")), True)

    def test_needed_primes(self):
        for dial, known, ought in ((12, 4, 3), (12, 6, 4), (12, 2, 12), (36, 6, 36), (36, 12, 9), (8, 4, 8), (8, 8, 1),
                                   (GREAT, 2 ** 40, 5 ** 40), (GREAT, 2 ** 39, GREAT), (6, 1, 6)):
            mill = (BARE[0], (("p", "a", "b", GREAT + 1, dial), ("q", "b", "a", -1 - GREAT, known)))
            self.assertEqual(smaller_dial(mill, "p"), ought)
            self.assertIs(same_mills(mill, least_dials(mill)), True)

    def test_same_without_a_setting(self):
        other = (WRONG[0], (("p", "a", "", 0, 2), ("q", "a", "", 1, 2)))
        self.assertIs(same_mills(WRONG, other), True)
        self.assertIsNone(unlike_by(WRONG, other))
        for mill in (BARE, MILL):
            named = (WRONG[0], mill[1])
            self.assertIs(same_mills(WRONG, named), False)
            for pair in ((WRONG, named), (named, WRONG)):
                self.assertIs(is_setting(named, unlike_by(*pair)), True)
                self.assertIs(is_unlike_by(*pair, unlike_by(*pair)), True)

    def test_rounds_may_be_unlike(self):
        other = (tuple((name, 3, 3) for name, _, _ in MILL[0]), MILL[1][::1])
        self.assertIs(same_mills(MILL, other), True)
        self.assertIsNone(unlike_by(MILL, other))

    def test_numbers_are_great(self):
        wheels = tuple((name, GREAT, 4) for name in "abcdefgh")
        row = tuple(("k" + other, one, other, -GREAT, GREAT) for one, other in zip("abcdefg", "bcdefgh"))
        mill = (wheels, row + (("x", "a", "h", -7 * GREAT, GREAT),))
        self.assertEqual(needless_sayings(mill), tuple(saying[0] for saying in mill[1]))
        self.assertEqual(len(all_lean(mill)), 8)
        self.assertEqual(fewest_sayings(mill), tuple(saying[0] for saying in mill[1] if saying[0] != "x"))
        self.assertEqual(len(least_dials(mill)[1]), 7)
        self.assertEqual([smaller_dial(EDGES, name) for name in ("a", "p", "q", "zzzzzzzz")], [GREAT, 0, 1, 0])
        self.assertEqual(needless_sayings(EDGES), ("q",))


class GoneThrough(Case):
    def settings(self, mill, number):
        return {as_begins(begun) for begun in begins_up_to(mill, number)}

    def check_needless(self, mill, number, full):
        names = [saying[0] for saying in mill[1]]
        free = []
        for name in names:
            without = some_of(mill, [other for other in names if other != name])
            if self.settings(without, number) == full:
                free.append(name)
            thing = loose_setting(mill, name)
            self.assertIs(thing is None, name in free)
            self.assertIs(is_loose_setting(mill, name, thing), name not in free)
            if not any(saying[4] == 0 for saying in mill[1]):
                for begins in sorted(self.settings(without, number))[:40]:
                    self.assertIs(is_loose_setting(mill, name, begins), begins not in full)
        self.assertEqual(needless_sayings(mill), tuple(free))
        self.assertIs(is_lean(mill), not free)

    def check_lean(self, mill, number, full):
        names = [saying[0] for saying in mill[1]]
        enough = [part for part in parts_of(names) if self.settings(some_of(mill, part), number) == full]
        lean = [part for part in enough if not any(set(other) < set(part) for other in enough)]
        self.assertEqual(all_lean(mill), sorted(lean))
        self.assertEqual(fewest_sayings(mill), min(lean, key=lambda part: (len(part), part)))
        for part in parts_of(names):
            self.assertIs(is_lean_set(mill, part), part in lean)
            self.assertIs(is_lean_set(mill, part[::-1]), part in lean and len(part) < 2)

    def check_dials(self, mill, number, full):
        for place, (name, one, other, late, dial) in enumerate(mill[1]):
            right = []
            # Up to the number a great dial tells as much as 0 does, but not in truth.
            for least in range(1, number if dial else 2):
                own = (mill[0], mill[1][:place] + ((name, one, other, late, least),) + mill[1][place + 1:])
                if self.settings_up_to(own, number, least) == full:
                    right.append(least)
                    break
            self.assertEqual(smaller_dial(mill, name), right[0] if right else 0, (mill, name))
            self.assertTrue(dial == 0 or dial % smaller_dial(mill, name) == 0)

    def settings_up_to(self, mill, number, dial):
        return self.settings(mill, number) if number % dial == 0 else None

    def check_least_dials(self, mill, number, full):
        least = least_dials(mill)
        self.assertIs(is_mill(least), True)
        self.assertEqual(self.settings(least, number), full)
        self.assertEqual(([smaller_dial(least, saying[0]) for saying in least[1]], is_lean(least)),
                         ([saying[4] for saying in least[1]], True))
        self.assertTrue(all(dial == 0 or late in range(dial) for _, _, _, late, dial in least[1]))
        self.assertEqual(least, self.one_by_one(mill))
        self.assertIs(same_mills(mill, least), True)

    def one_by_one(self, mill):
        for name in [saying[0] for saying in mill[1]]:
            dial = smaller_dial(mill, name)
            told = []
            for saying in mill[1]:
                if saying[0] != name or dial == 0:
                    told.append(saying)
                elif dial != 1:
                    told.append((*saying[:3], saying[3] % dial, dial))
            mill = (mill[0], tuple(told))
        return mill

    def test_small_mills(self):
        source = random.Random(81)
        for wheels, sayings, dials in ((2, 4, DIALS), (2, 3, (2, 3, 6)), (3, 4, (1, 2, 4)), (1, 3, DIALS), (3, 4, (0, 2))):
            for mill, _ in kept_mills(source, 12, wheels, sayings, dials):
                number = turn_of(mill)
                full = self.settings(mill, number)
                self.check_needless(mill, number, full)
                self.check_lean(mill, number, full)
                self.check_dials(mill, number, full)
                self.check_least_dials(mill, number, full)

    def test_same(self):
        source = random.Random(82)
        told = set()
        for dials in ((2, 3), (2, 4, 4), (0, 2)):
            mills = [mill for mill, _ in kept_mills(source, 14, 2, 2, dials)]
            mills += [(BARE[0][:2], (("p", "a", "b", 0, 2), ("q", "b", "a", 1, 2)))]
            for one, other in itertools.product(mills, repeat=2):
                # Great enough that what is told to the tick is the same up to it in truth alone.
                number = turn_of(one, turn_of(other), 16 if 0 in dials else 1)
                same = self.settings(one, number) == self.settings(other, number)
                told.add(same)
                self.assertIs(same_mills(one, other), same)
                thing = unlike_by(one, other)
                self.assertIs(thing is None, same)
                self.assertIs(is_unlike_by(one, other, thing), not same)
                for begins in itertools.product(range(-1, 4), repeat=2):
                    thing = tuple(zip("ab", begins))
                    kept = [all(keeps(thing, saying) for saying in mill[1]) for mill in (one, other)]
                    self.assertIs(is_unlike_by(one, other, thing), kept[0] != kept[1])
        self.assertEqual(told, {True, False})


class Things(Case):
    def test_sets(self):
        for mill in (TWO, MILL, EDGES, EMPTY):
            right = {repr(part) for part in all_lean(mill)}
            for part in all_lean(mill):
                for thing in changed(part):
                    self.assertIs(is_lean_set(mill, thing), repr(thing) in right, repr(thing)[:200])

    def test_settings(self):
        for mill, name in ((MILL, "q"), (EDGES, "p"), (TWO, "x")):
            without = (mill[0], tuple(saying for saying in mill[1] if saying[0] != name))
            for thing in (*changed(loose_setting(mill, name)), *ODD):
                right = is_setting(without, thing) and not is_setting(mill, thing)
                self.assertIs(is_loose_setting(mill, name, thing), right, repr(thing)[:200])
        for thing in (*changed((("a", 0), ("b", 2))), *ODD):
            right = is_setting((TWO[0], ()), thing) and not is_setting(TWO, thing)
            self.assertIs(is_unlike_by(TWO, (TWO[0], ()), thing), right, repr(thing)[:200])
            self.assertIs(is_unlike_by(EMPTY, EMPTY, thing), False)

    def test_papers_of_mills_that_can_be_kept(self):
        for mill in (MILL, TWO, EDGES):
            self.assertIs(can_be_kept(mill), True)
            for name in [saying[0] for saying in mill[1]]:
                thing = loose_setting(mill, name)
                self.assertIs(is_loose_setting(mill, name, thing), thing is not None)
                self.assertIs(thing is None, name in needless_sayings(mill))


if __name__ == "__main__":
    unittest.main()
