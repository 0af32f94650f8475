import itertools
import random
import unittest

from tests.brute import begins_up_to, class_up_to, fewest_part, fine_turn, just, kept_mills, kept_up_to, least_parts
from tests.brute import lates_up_to, parts_of, small_mills
from tests.case import Case
from tests.samples import BARE, EDGES, EMPTY, GREAT, MILL, ODD, SQUARE, TWO, WRONG, changed
from wheelmarks.errors import NoSaying, NoSetting
from wheelmarks.rings import bad_rings, can_be_kept, is_bad_ring
from wheelmarks.wrong import (
    all_told, blamed, blind_step, could_be, in_all_bad, is_seen, is_strike, is_twin_paper, keep_most, mended_late,
    strikes, twin_paper, twins,
)

ALIKE = ((("a", 6, 1), ("b", 6, 1)), (("x", "a", "b", 1, 6), ("y", "a", "b", 1, 6), ("z", "b", "a", 5, 6)))


def names_of(mill):
    return [saying[0] for saying in mill[1]]


def all_but(mill, *gone):
    return just(mill, [name for name in names_of(mill) if name not in gone])


def with_late(mill, name, told):
    """The MILL in which the late of this SAYING is what told makes of it."""
    return mill[0], tuple(
        (*saying[:3], told(saying[3]), saying[4]) if saying[0] == name else saying for saying in mill[1]
    )


def written(mill, name, off):
    return with_late(mill, name, lambda late: late + off)


class Errors(Case):
    ONE = ((mended_late,), (blind_step,), (is_seen, 3), (could_be, 3))
    TWO = ((twin_paper,), (is_twin_paper, (0, 0)))

    def test_no_saying_first(self):
        for mill in (MILL, WRONG):
            for name in ("a", "", "pp"):
                for function, *more in self.ONE:
                    self.raises(NoSaying, {"name": name}, function, mill, name, *more)
                for function, *more in self.TWO:
                    self.raises(NoSaying, {"name": name}, function, mill, name, "zz", *more)
                    self.raises(NoSaying, {"name": name}, function, mill, "p", name, *more)
                    self.raises(NoSaying, {"name": name}, function, mill, name, name, *more)

    def test_no_setting(self):
        for mill in (WRONG, SQUARE):
            for function, *more in self.ONE[1:]:
                self.raises(NoSetting, {}, function, mill, "p", *more)
            for function, *more in self.TWO:
                self.raises(NoSetting, {}, function, mill, "p", "q", *more)
                self.raises(NoSetting, {}, function, mill, "p", "p", *more)
            self.raises(NoSetting, {}, twins, mill)
            self.raises(NoSetting, {}, all_told, mill)


class Edges(Case):
    def test_mills_with_a_setting(self):
        for mill in (MILL, EMPTY, BARE, EDGES):
            self.assertEqual((strikes(mill), blamed(mill), in_all_bad(mill)), ([()], (), ()))
            self.assertEqual(keep_most(mill), tuple(names_of(mill)))
            self.assertIs(is_strike(mill, ()), True)
            for name in names_of(mill):
                self.assertIs(is_strike(mill, (name,)), False)
                for off in (0, 1, GREAT):
                    self.assertIs(is_twin_paper(mill, name, name, (off, -off)), False)
                self.assertIsNone(twin_paper(mill, name, name))

    def test_mills_without_a_setting(self):
        for mill in (WRONG, SQUARE, TWO):
            self.assertIs(is_strike(mill, ()), False)
            self.assertNotIn((), strikes(mill))
        self.assertEqual((strikes(WRONG), keep_most(WRONG)), ([("p",), ("q",), ("r",)], ("p", "q", "s", "t")))
        self.assertEqual((strikes(TWO), in_all_bad(TWO), keep_most(TWO)), ([("x", "y"), ("z",)], ("z",), ("x", "y")))

    def test_bare_mills(self):
        for mill in (EMPTY, BARE):
            self.assertEqual((twins(mill), all_told(mill)), ([], True))

    def test_offs(self):
        for mill in (MILL, ALIKE, EDGES):
            for name in names_of(mill):
                step = blind_step(mill, name)
                for off in (0, step, -step, GREAT * step):
                    self.assertEqual((is_seen(mill, name, off), could_be(mill, name, off)), (False, ()))
                if step != 1:
                    for off in (1, -1, 1 + GREAT * step):
                        self.assertIs(is_seen(mill, name, off), True)
                        self.assertIn(name, could_be(mill, name, off))

    def test_dials_0_and_1(self):
        mill = (BARE[0], (("p", "a", "b", 4, 0), ("q", "b", "a", -4, 0), ("r", "a", "b", 0, 4), ("s", "a", "b", 5, 1)))
        self.assertEqual([blind_step(mill, name) for name in "pqrs"], [0, 0, 4, 1])
        self.assertEqual([mended_late(mill, name) for name in "pqrs"], [(4, 0), (-4, 0), (0, 4), (0, 1)])
        told = [could_be(mill, name, off) for name, off in (("p", 4), ("p", -3), ("r", 2))]
        self.assertEqual(told, [("p", "q"), ("p",), ("r",)])
        self.assertEqual((twins(mill), all_told(mill)), ([("p", "q")], False))
        self.assertIs(is_seen(mill, "s", 1), False)
        self.assertIs(is_twin_paper(mill, "p", "q", twin_paper(mill, "p", "q")), True)
        broken = (mill[0], mill[1] + (("t", "a", "b", 9, 0),))
        self.assertEqual((mended_late(broken, "t"), mended_late(broken, "p")), ((4, 0), None))
        self.assertEqual(mended_late((BARE[0], mill[1][:1]), "p"), (0, 1))
        self.assertEqual(blind_step((BARE[0], mill[1][:1]), "p"), 1)

    def test_numbers_are_great(self):
        wheels = tuple((name, GREAT, 4) for name in "abcdefgh")
        row = tuple(("k" + other, one, other, -GREAT, GREAT - 1) for one, other in zip("habcdefg", "abcdefgh"))
        # Round the eight SAYINGS of row it is -8 * GREAT, which is -8 up to GREAT - 1.
        mill = (wheels, row + (("x", "", "h", GREAT, 0), ("z", "d", "h", 2 * GREAT, 3 * (GREAT - 1))))
        self.assertEqual((in_all_bad(mill), can_be_kept(mill)), ((), False))
        fine = (wheels, row[1:] + (("z", "d", "h", -4 * GREAT, 3 * (GREAT - 1)), ("x", "", "h", GREAT, 0)))
        self.assertEqual((strikes((wheels, row)), len(blamed((wheels, row)))), ([(name,) for name, *_ in row], 8))
        self.assertEqual([blind_step(fine, name) for name in ("kb", "ke", "z", "x")], [1, GREAT - 1, GREAT - 1, 1])
        self.assertEqual(could_be(fine, "ke", 5 * GREAT), ("ke", "kf", "kg", "kh", "z"))
        self.assertEqual(len(twins(fine)), 10)
        self.assertEqual(all_told(fine), False)
        self.assertIs(is_twin_paper(fine, "ke", "z", twin_paper(fine, "ke", "z")), True)
        self.assertIsNone(twin_paper(fine, "ke", "x"))

    def test_twelve_sayings(self):
        ends = [("a", "b"), ("b", "c"), ("c", "d"), ("d", "a")]
        row = tuple((name, *ends[place % 4], 3, (6, 4, 9, 8)[place // 4]) for place, name in enumerate("klmnopqrstuv"))
        mill = (tuple((name, 6, 1) for name in "abcd"), row)
        # Round the four with dial 9 it is 12, which 4 and 6 divide.
        self.assertEqual(in_all_bad(mill), ("s", "t", "u", "v"))
        self.assertEqual([is_strike(mill, part) for part in (("u",), ("k",), ("s", "t"))], [True, False, False])
        fine = (mill[0], tuple((name, one, other, 0, dial) for name, one, other, _, dial in row))
        right = [pair for pair in itertools.combinations("klmnopqrstuv", 2) if any(
            name in could_be(fine, other, off) for name, other in (pair, pair[::-1]) for off in (1, 2, 3, 4, 6)
        )]
        self.assertEqual(twins(fine), right)


class GoneThrough(Case):
    LATES = range(-1, 3)

    def wrong_mills(self, seed, many):
        source = random.Random(seed)
        for wheels, sayings, dials in (
            (3, 4, (2, 3, 4)), (2, 5, (2, 3, 6)), (2, 4, (0, 1, 2, 4)), (1, 3, (0, 4, 6)), (2, 0, (1,)),
        ):
            yield from small_mills(source, many, wheels, sayings, dials, self.LATES)

    def fine_mills(self, seed, many):
        source = random.Random(seed)
        for wheels, sayings, dials in ((3, 4, (2, 4)), (2, 4, (2, 3, 6)), (2, 3, (0, 1, 4)), (1, 3, (0, 4, 6))):
            yield from kept_mills(source, many, wheels, sayings, dials)

    def test_strikes(self):
        told = set()
        for mill in self.wrong_mills(111, 14):
            number, names = fine_turn(mill) // 2, names_of(mill)
            kept = [part for part in parts_of(names) if kept_up_to(just(mill, part), number)]
            right = least_parts([tuple(name for name in names if name not in part) for part in kept])
            self.assertEqual(strikes(mill), sorted(right))
            for part in parts_of(names):
                self.assertIs(is_strike(mill, part), part in right)
                self.assertIs(is_strike(mill, part[::-1]), part in right and len(part) < 2)
            most = max(len(part) for part in kept)
            self.assertEqual(keep_most(mill), min(part for part in kept if len(part) == most))
            self.assertEqual(blamed(mill), tuple(name for name in names if any(name in part for part in right)))
            lone = tuple(name for name in names if (name,) in right)
            self.assertEqual(in_all_bad(mill), lone)
            self.check_rings(mill, right)
            told.add((len(right) > 1, len(lone) > 0, max(len(part) for part in right)))
        self.assertTrue({(False, False, 0), (True, True, 2), (True, False, 2), (True, True, 1)} <= told, told)

    def check_rings(self, mill, right):
        """Strikes have one of each bad RING; blamed and in_all_bad are in some, and in all of them."""
        marks = [{name for name, _ in ring} for ring in bad_rings(mill)]
        for part in right:
            self.assertTrue(all(set(part) & names for names in marks))
        self.assertEqual(set(blamed(mill)), set().union(*marks))
        self.assertEqual(set(in_all_bad(mill)), set.intersection(*marks) if marks else set())

    def test_mended_late(self):
        told = set()
        for mill in self.wrong_mills(112, 10):
            for name, _, _, _, dial in mill[1]:
                number = fine_turn(mill)
                right = {late for late in range(dial or number)
                         if kept_up_to(with_late(mill, name, lambda _: late), number)}
                mended = mended_late(mill, name)
                told.add((mended is None, len(right) > 1))
                if mended is None:
                    self.assertEqual(right, set())
                else:
                    self.assertEqual(class_up_to(mended, dial or number), right)
                    self.assertIs(can_be_kept(with_late(mill, name, lambda _: mended[0])), True)
        self.assertEqual(told, {(True, False), (False, False), (False, True)})

    def turn_with_off(self, mill):
        """A number up to which lates wrong by what offs_of tells are to the tick where dials are 0."""
        return fine_turn(mill, 24 if any(saying[4] == 0 for saying in mill[1]) else 6)

    def offs_of(self, mill, name):
        """The offs to go through for this SAYING, and for each whether it is seen."""
        number = self.turn_with_off(mill)
        dial = dict((saying[0], saying[4]) for saying in mill[1])[name]
        return [(off, not kept_up_to(written(mill, name, off), number)) for off in range(-2, (dial or 12) + 1)]

    def test_one_late_wrong(self):
        for mill, _ in self.fine_mills(113, 8):
            number = self.turn_with_off(mill)
            for name in names_of(mill):
                step = blind_step(mill, name)
                for off, seen in self.offs_of(mill, name):
                    self.assertIs(is_seen(mill, name, off), seen)
                    self.assertIs(seen, off != 0 if step == 0 else off % step != 0)
                    own = written(mill, name, off)
                    right = [other for other in names_of(mill) if seen and kept_up_to(all_but(own, other), number)]
                    self.assertEqual(could_be(mill, name, off), tuple(right))

    def test_twins(self):
        sizes = set()
        for mill, _ in self.fine_mills(114, 9):
            right = set()
            for name in names_of(mill):
                for off, _ in self.offs_of(mill, name):
                    right |= {tuple(sorted((name, other))) for other in could_be(mill, name, off) if other != name}
            self.assertEqual(twins(mill), sorted(right))
            self.assertIs(all_told(mill), not right)
            sizes.add(len(right))
            for first, second in itertools.product(names_of(mill), repeat=2):
                thing = twin_paper(mill, first, second)
                self.assertIs(thing is not None, tuple(sorted((first, second))) in right)
                self.assertIs(is_twin_paper(mill, first, second, thing), thing is not None)
                # By the guarantee, either way about.
                if first != second:
                    steps = [blind_step(mill, first), blind_step(all_but(mill, second), first)]
                    self.assertIs(thing is None, steps[0] == steps[1])
        self.assertTrue({0, 1, 3} <= sizes, sizes)

    def test_twin_papers(self):
        found = 0
        for mill, _ in self.fine_mills(115, 3):
            number = self.turn_with_off(mill)
            for first, second in itertools.permutations(names_of(mill), 2):
                for thing in itertools.product(range(-1, 4), repeat=2):
                    own = written(mill, first, thing[0])
                    right = not kept_up_to(own, number) and kept_up_to(written(own, second, thing[1]), number)
                    self.assertIs(is_twin_paper(mill, first, second, thing), right)
                    found += right
        self.assertGreater(found, 20)

    def test_fewest_is_least(self):
        """The strikes with the fewest members leave just what keep_most can tell."""
        for mill in self.wrong_mills(116, 4):
            most = keep_most(mill)
            gone = tuple(name for name in names_of(mill) if name not in most)
            self.assertEqual(len(fewest_part(strikes(mill))), len(gone))
            self.assertIn(gone, strikes(mill))

    def test_lates_hang_on_the_others(self):
        for mill, _ in self.fine_mills(117, 4):
            for name, one, other, _, dial in mill[1]:
                number = fine_turn(mill, dial or 1)
                every = begins_up_to(all_but(mill, name), number)
                lates = {late % (dial or number) for late in lates_up_to(every, one, other, number)}
                self.assertEqual(class_up_to(mended_late(mill, name), dial or number), lates)


class Things(Case):
    def test_strikes(self):
        for mill in (WRONG, SQUARE, TWO, MILL, EMPTY):
            right = {repr(part) for part in strikes(mill)}
            for part in strikes(mill):
                for thing in changed(part):
                    self.assertIs(is_strike(mill, thing), repr(thing) in right, repr(thing)[:200])

    def test_pairs(self):
        for mill, first, second in ((MILL, "p", "r"), (ALIKE, "x", "y")):
            for thing in (*changed((1, 1)), *changed((-GREAT, 6 * GREAT)), *ODD):
                right = type(thing) is tuple and len(thing) == 2 and all(type(off) is int for off in thing)
                if right:
                    own = written(mill, first, thing[0])
                    right = not can_be_kept(own) and can_be_kept(written(own, second, thing[1]))
                self.assertIs(is_twin_paper(mill, first, second, thing), right, repr(thing)[:200])

    def test_bad_rings_tell_strikes(self):
        ring = (("p", 1), ("q", 1), ("r", -1))
        self.assertIs(is_bad_ring(WRONG, ring), True)
        self.assertEqual(strikes(WRONG), [(name,) for name, _ in ring])


if __name__ == "__main__":
    unittest.main()
