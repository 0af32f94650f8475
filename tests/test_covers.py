import fractions
import itertools
import random
import unittest

from tests.brute import as_begins, begins_up_to, kept_mills, ought_mill, parts_of, turn_of
from tests.case import Case
from tests.samples import BARE, EDGES, EMPTY, GREAT, MILL, ODD, SQUARE, WRONG, changed
from wheelmarks.covers import (
    all_covers, bare_share, few_settings, fewest_cover, is_covered, is_more, is_uncovered, kept_share, needless,
    uncovered,
)
from wheelmarks.errors import NoSetting, NoWheel
from wheelmarks.mills import is_setting
from wheelmarks.settings import least_setting, moves

FREE = ((("a", 6, 1), ("b", 4, 1), ("c", 5, 1)), ())
K, M, N = ("k", "a", "b", 0, 2, 0), ("m", "b", "c", 0, 2, 0), ("n", "a", "c", 0, 2, 0)
LOT = (
    ("d", "a", "b", 0, 2, 0), ("e", "a", "b", 1, 4, 0), ("f", "a", "b", 3, 4, 0), ("g", "a", "b", 1, 2, 0),
)
EVEN = (FREE[0], (("p", "a", "b", 0, 2),))
ROOMS = ((0, 0, 0, 0), (0, 0, 0), (1, 0, 0), (2, 1), (3, 0), (6,), (0,), ())


def keeps_up_to(begun, further, number):
    _, one, other, late, dial, room = further
    return any((begun[other] - begun[one] - late - at) % (dial or number) == 0 for at in range(room + 1))


def further_ones(source, names, rooms, dials):
    more = []
    for name, room in zip("abcde", rooms):
        one, other = source.sample(["", *names], 2)
        more.append((name, one, other, source.randrange(-2, 3), source.choice(dials), room))
    return tuple(more)


def ought_more(mill, thing):
    """As the document says it of more, by way of what a MILL is."""
    if type(thing) is not tuple or not all(type(part) is tuple and len(part) == 6 for part in thing):
        return False
    if not all(type(part[5]) is int and part[5] >= 0 for part in thing):
        return False
    if not all(ought_mill((mill[0], (part[:5],))) for part in thing):
        return False
    names = [part[0] for part in thing]
    return names == sorted(set(names)) and not set(names) & {saying[0] for saying in mill[1]}


class Examples(Case):
    def test_free(self):
        told = (
            is_covered(FREE, (K, M, N)), is_covered(FREE, (K, M)), needless(FREE, (K, M, N)),
            fewest_cover(FREE, (K, M, N)), bare_share(FREE, (K, M)), bare_share(FREE, (K, M, N)),
        )
        self.assertEqual(told, (True, False, (), ("k", "m", "n"), (1, 4), (0, 1)))
        self.assertIs(is_uncovered(FREE, (K, M), (("a", 0), ("b", 1), ("c", 0))), True)
        self.assertIs(is_uncovered(FREE, (K, M), (("a", 0), ("b", 1), ("c", 1))), False)

    def test_lot(self):
        room = (("d", "a", "b", 0, 3, 1), ("e", "a", "b", 2, 3, 0))
        told = all_covers(FREE, LOT), needless(FREE, LOT), bare_share(FREE, LOT[:2]), is_covered(FREE, room)
        self.assertEqual(told, ([("d", "e", "f"), ("d", "g")], ("e", "f", "g"), (1, 4), True))

    def test_even(self):
        told = (
            is_covered(EVEN, (K,)), kept_share(EVEN, (("e", "a", "b", 2, 4, 0),)),
            kept_share(EVEN, (("e", "", "a", 7, 0, 0),)),
            bare_share(EVEN, (("e", "", "a", 0, 3, 1), ("f", "a", "b", 0, 4, 0))),
        )
        self.assertEqual(told, (True, (1, 2), (0, 1), (1, 6)))
        self.raises(NoWheel, {"name": "x"}, is_covered, FREE, (("d", "a", "x", 0, 2, 0),))


class Errors(Case):
    CALLS = (is_covered, uncovered, needless, all_covers, fewest_cover, kept_share, bare_share)

    def test_no_wheel_first(self):
        setting = (("a", 0), ("b", 0), ("c", 0))
        for mill in (FREE, WRONG, SQUARE):
            for ends, name in ((("y", "z"), "y"), (("a", "z"), "z"), (("", "z"), "z"), (("A", ""), "A")):
                more = (("k", "a", "b", 0, 2, 0), ("m", *ends, 0, 2, 0), ("n", "w", "x", 0, 2, 0))
                for function in self.CALLS:
                    self.raises(NoWheel, {"name": name}, function, mill, more)
                self.raises(NoWheel, {"name": name}, is_uncovered, mill, more, None)
                self.raises(NoWheel, {"name": name}, few_settings, mill, setting, (), more)

    def test_no_setting_for_shares_alone(self):
        for mill in (WRONG, SQUARE):
            for more in ((), (("k", "a", "b", 0, 2, 0),)):
                self.raises(NoSetting, {}, kept_share, mill, more)
                self.raises(NoSetting, {}, bare_share, mill, more)
                self.assertIs(is_covered(mill, more), True)
                self.assertIsNone(uncovered(mill, more))
                self.assertIs(is_uncovered(mill, more, (("a", 0), ("b", 0), ("c", 0), ("d", 0))), False)
                self.assertEqual(needless(mill, more), tuple(further[0] for further in more))
                self.assertEqual((all_covers(mill, more), fewest_cover(mill, more)), ([()], ()))


class Edges(Case):
    def test_none_more(self):
        for mill in (FREE, EMPTY, EVEN, EDGES):
            self.assertIs(is_covered(mill, ()), False)
            self.assertIs(is_uncovered(mill, (), uncovered(mill, ())), True)
            self.assertEqual((needless(mill, ()), all_covers(mill, ()), fewest_cover(mill, ())), ((), [], None))
            self.assertEqual((kept_share(mill, ()), bare_share(mill, ())), ((1, 1), (1, 1)))
            self.assertEqual(few_settings(mill, least_setting(mill), moves(mill), ()), [least_setting(mill)])
            self.assertIs(is_more(mill, ()), True)

    def test_dial_1_and_great_room_keep_all(self):
        for further in (("k", "a", "b", 7, 1, 0), ("k", "", "b", 7, 3, 2), ("k", "c", "a", -GREAT, 5, 28)):
            self.assertIs(is_covered(FREE, (further,)), True)
            self.assertEqual((kept_share(FREE, (further,)), bare_share(FREE, (further,))), ((1, 1), (0, 1)))
            self.assertEqual(all_covers(FREE, (further, M)), [("k",)])
        self.assertEqual(kept_share(FREE, (("k", "a", "b", 7, 4, 2),)), (3, 4))

    def test_dial_0(self):
        exact = ("e", "", "a", 7, 0, 3)
        held = (FREE[0], (("p", "a", "", -9, 0), ("q", "b", "c", 1, 2)))
        self.assertIs(is_covered(held, (exact,)), True)
        self.assertEqual((kept_share(held, (exact,)), bare_share(held, (exact,))), ((1, 1), (0, 1)))
        for late, room, right in ((6, 3, True), (5, 3, False), (10, 3, False), (9, 0, True), (8, 0, False)):
            self.assertIs(is_covered(held, (("e", "", "a", late, 0, room),)), right)
        self.assertIs(is_covered(FREE, (exact,)), False)
        self.assertEqual((kept_share(FREE, (exact,)), bare_share(FREE, (exact,))), ((0, 1), (1, 1)))
        self.assertIs(is_uncovered(FREE, (exact,), uncovered(FREE, (exact,))), True)
        self.assertEqual(bare_share(held, (("e", "b", "c", 1, 0, 9), ("f", "b", "c", 0, 4, 1))), (1, 2))
        self.assertEqual(kept_share(held, (exact, ("f", "b", "c", 0, 4, 1))), (1, 2))
        self.assertEqual(fewest_cover(held, (("d", "b", "c", 0, 4, 0), ("e", "b", "c", 1, 0, 5), ("f", "", "a", 9, 7, 0))),
                         ("f",))

    def test_dial_0_against_what_is_sure(self):
        tied = (FREE[0], (("p", "a", "b", 5, 0),))
        for late, told in ((5, (1, 1)), (4, (0, 1)), (6, (0, 1))):
            self.assertEqual(kept_share(tied, (("e", "a", "b", late, 0, 0),)), told)
            self.assertEqual(bare_share(tied, (("e", "b", "a", -late, 0, 0),)), (1 - told[0], 1))
        self.assertEqual(kept_share(tied, (("e", "a", "b", 2, 0, 3), ("f", "b", "a", 0, 5, 0))), (1, 1))

    def test_shares_of_what_goes_not_together(self):
        more = (("d", "a", "b", 0, 4, 0), ("e", "a", "b", 1, 6, 0), ("f", "b", "c", 1, 10, 0))
        self.assertEqual((bare_share(FREE, more[:2]), kept_share(FREE, more[:2])), ((7, 12), (0, 1)))
        self.assertEqual((bare_share(FREE, more), kept_share(FREE, more)), ((21, 40), (0, 1)))

    def test_of_few_settings(self):
        home, told = (("a", 5), ("b", 0), ("c", 0)), (
            (("a", 1), ("b", 1), ("c", 1)), (("a", 0), ("b", 3), ("c", 0)),
        )
        more = (("k", "a", "b", 0, 2, 2),)
        begins = [(5, 0, 0), (5, 3, 0), (5, 6, 0), (5, 9, 0), (6, 1, 1), (6, 4, 1), (7, 2, 2), (8, 3, 3)]
        self.assertEqual(few_settings(FREE, home, told, more), [tuple(zip("abc", row)) for row in begins])
        self.assertEqual(few_settings(FREE, home, (), more), [home])
        still = (("a", 0), ("b", 0), ("c", 0))
        self.assertEqual(few_settings(FREE, home, (still,), more), [home] * 4)
        self.assertEqual(few_settings(WRONG, home, told[1:], ()), [home])

    def test_is_more_with_whatever_looks(self):
        many = tuple((one + other, "", "a", GREAT, GREAT, GREAT) for one in "abcdef" for other in "abcdef")
        self.assertIs(is_more(FREE, many), True)
        self.assertIs(is_more(FREE, many[::-1]), False)
        self.assertIs(is_more((FREE[0], (("ff", "a", "b", 0, 2),)), many), False)
        self.assertIs(is_more((FREE[0] + (("ff", 3, 1),), ()), many), True)

    def test_numbers_are_great(self):
        wheels = tuple((name, GREAT, 4) for name in "abcdefgh")
        row = tuple((name, name, other, 1, GREAT) for name, other in zip("abcdefg", "bcdefgh"))
        mill = (wheels, row)
        self.assertIs(is_covered(mill, (("z", "a", "h", 7 + GREAT, 5 * 2 ** 40, 0),)), True)
        self.assertEqual(kept_share(mill, (("z", "a", "h", 7, 6 * GREAT, 0),)), (1, 6))
        self.assertEqual(bare_share(mill, (("y", "", "h", 7, GREAT, 29),)), (GREAT // 10 - 3, GREAT // 10))
        loose = tuple(("z" + name, "", name, at, 2 ** (at + 1), 0) for at, name in enumerate("abcde"))
        for more in (loose, (("y", "", "h", 7, 29, 27),), loose[:2] + (("y", "c", "d", -GREAT, GREAT, 6),)):
            setting = uncovered((wheels, ()), more)
            self.assertIs(is_uncovered((wheels, ()), more, setting), True)
        halves = tuple(("z" + name, "", "a", 2 ** at - 1, 2 ** (at + 1), 0) for at, name in enumerate("abcde"))
        self.assertEqual(bare_share(mill, halves), (1, 32))
        self.assertIs(is_uncovered(mill, halves, uncovered(mill, halves)), True)


class GoneThrough(Case):
    def check_all(self, mill, more, number, every):
        kept = [[keeps_up_to(begun, further, number) for further in more] for begun in every]
        names = [further[0] for further in more]
        covers = {
            part: all(any(row[names.index(name)] for name in part) for row in kept)
            for part in parts_of(names)
        }
        self.assertIs(is_covered(mill, more), covers[tuple(names)])
        setting = uncovered(mill, more)
        self.assertIs(setting is None, covers[tuple(names)])
        self.assertIs(is_uncovered(mill, more, setting), setting is not None)
        free = tuple(name for name in names if covers[tuple(names)]
                     and covers[tuple(other for other in names if other != name)])
        self.assertEqual(needless(mill, more), free)
        least = [part for part, does in covers.items()
                 if does and not any(covers[less] for less in parts_of(part) if less != part)]
        self.assertEqual(all_covers(mill, more), sorted(least))
        self.assertEqual(fewest_cover(mill, more), min(least, key=lambda part: (len(part), part), default=None))
        near = few_settings(mill, least_setting(mill), moves(mill), more)
        self.assertIs(any(is_uncovered(mill, more, own) for own in near), setting is not None)
        self.assertTrue(all(is_setting(mill, own) for own in near))
        return kept

    def check_shares(self, mill, more, kept):
        for function, rows in ((kept_share, [all(row) for row in kept]), (bare_share, [not any(row) for row in kept])):
            share = fractions.Fraction(sum(rows), len(rows))
            self.assertEqual(function(mill, more), (share.numerator, share.denominator), (mill, more))

    def test_settings_gone_through(self):
        source = random.Random(51)
        seen = set()
        for wheels, sayings, own, dials in (
            (3, 0, (1,), (2, 2, 3)), (3, 2, (2, 3), (2, 3, 4)), (2, 1, (0, 2, 4), (1, 2, 4, 8)), (3, 2, (0, 2), (2, 4)),
            (1, 1, (0, 3), (2, 3)), (2, 0, (1,), (2, 3, 4, 6)),
        ):
            for mill, _ in kept_mills(source, 20, wheels, sayings, own):
                more = further_ones(source, [wheel[0] for wheel in mill[0]], source.choice(ROOMS), dials)
                number = turn_of(mill, *[further[4] for further in more])
                every = begins_up_to(mill, number)
                self.check_shares(mill, more, self.check_all(mill, more, number, every))
                seen.add((is_covered(mill, more), len(more) > 2))
        self.assertEqual(len(seen), 4)

    def test_dials_0(self):
        # Up to a number great enough a late to the tick covers no more than to the tick itself.
        source = random.Random(52)
        for wheels, own in ((1, (0, 2)), (2, (0, 2)), (2, (2, 4))):
            for mill, _ in kept_mills(source, 20, wheels, 2, own):
                more = further_ones(source, [wheel[0] for wheel in mill[0]], source.choice(ROOMS), (0, 0, 2))
                self.check_all(mill, more, 40, begins_up_to(mill, 40))

    def test_few_by_all(self):
        source = random.Random(53)
        for mill, home in kept_mills(source, 12, 3, 2, (0, 2, 3)):
            told = moves(mill)
            more = further_ones(source, "abc", source.choice(ROOMS), (2, 3))
            looks = 1
            for further in more:
                looks *= further[5] + 2
            ought = []
            for numbers in itertools.product(range(looks), repeat=len(told)):
                size = 1
                for times in numbers:
                    size *= times + 1
                if size <= looks:
                    ought.append(tuple(
                        (name, begin + sum(times * move[at][1] for times, move in zip(numbers, told)))
                        for at, (name, begin) in enumerate(home)
                    ))
            self.assertEqual(few_settings(mill, home, told, more), ought)

    def test_nearness_from_whichever_setting(self):
        for at in range(12):
            home = (("a", at % 3), ("b", at - 5), ("c", -at))
            near = few_settings(FREE, home, moves(FREE), (K, M))
            self.assertTrue(any(is_uncovered(FREE, (K, M), own) for own in near))
            near = few_settings(FREE, home, moves(FREE), (K, M, N))
            self.assertFalse(any(is_uncovered(FREE, (K, M, N), own) for own in near))


class Things(Case):
    def test_is_more(self):
        for mill in (FREE, EVEN, EDGES, EMPTY, WRONG):
            ends = ["", *[wheel[0] for wheel in mill[0]]]
            more = tuple((name, ends[0], ends[-1], -3, dial, 2) for name, dial in (("k", 0), ("p", 4), ("zz", GREAT)))
            told = set()
            for thing in changed(more):
                right = ought_more(mill, thing)
                told.add(right)
                self.assertIs(is_more(mill, thing), right, repr(thing)[:200])
            self.assertEqual(told, {True, False})

    def test_is_uncovered(self):
        for mill, more in ((FREE, (K, M)), (EVEN, (("e", "a", "b", 2, 4, 0),)), (MILL, ()), (BARE, (K,)), (EMPTY, ())):
            for thing in changed(uncovered(mill, more)):
                right = is_setting(mill, thing) and not any(
                    keeps_up_to({"": 0, **dict(thing)}, further, 0) for further in more
                )
                self.assertIs(is_uncovered(mill, more, thing), right, repr(thing)[:200])
            for thing in ODD:
                self.assertIs(is_uncovered(mill, more, thing), thing == () and mill == EMPTY)

    def test_all_settings_up_to(self):
        for begun in begins_up_to(EVEN, 4):
            setting = as_begins(begun)
            for more in ((K,), (M,), (K, M), (M, N)):
                right = not any(keeps_up_to(begun, further, 4) for further in more)
                self.assertIs(is_uncovered(EVEN, more, setting), right)


if __name__ == "__main__":
    unittest.main()
