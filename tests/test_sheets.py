import itertools
import random
import unittest

from tests.brute import begins_up_to, class_up_to, fewest_part, fine_turn, greatest_parts, just, kept_mills, keeps
from tests.brute import as_begins, lates_up_to, least_parts, ought_name, parts_of
from tests.case import Case
from tests.samples import BARE, EDGES, EMPTY, GREAT, MILL, ODD, SQUARE, WRONG, changed
from wheelmarks.errors import NoReader, NoSaying, NoSetting, NoWheel, Unfit
from wheelmarks.mills import is_mill, is_setting
from wheelmarks.sheets import (
    bands, fewest_sheets, gifts, is_paper_for, is_sheets, learned, needless_sheets, paper_for, put_together,
    secret_kept, told,
)
from wheelmarks.sures import sure_late

SHEETS = (("ann", ("p",)), ("bob", ("q",)), ("cy", ("r",)), ("dan", ("p", "q")))
READERS = ("ann", "bob", "cy", "dan")


def ends_of(mill):
    return ["", *[wheel[0] for wheel in mill[0]]]


def names_of(mill):
    return [saying[0] for saying in mill[1]]


def own_of(mill, sheets, readers):
    return just(mill, [name for reader, names in sheets for name in names if reader in readers])


class Errors(Case):
    # What is handed in behind mill: for each function the kinds of its arguments, in their order.
    KINDS = (
        (told, "sheets readers one other"), (bands, "sheets one other dial"),
        (paper_for, "sheets readers one other dial"),
        (is_paper_for, "sheets readers one other dial thing"), (gifts, "have one other"),
        (secret_kept, "sheets one other"),
        (learned, "sheets giver taker"), (put_together, "sheets readers"), (needless_sheets, "sheets"),
        (fewest_sheets, "sheets"),
    )
    GOOD = {
        "sheets": SHEETS, "readers": ("bob", "cy"), "one": "a", "other": "", "dial": 2, "thing": None, "have": ("p",),
        "giver": "ann", "taker": "dan",
    }
    # What is wrong, and by what it is refused, in the order in which it is.
    WRONG = (
        ("one", "x", NoWheel, {"name": "x"}), ("other", "p", NoWheel, {"name": "p"}),
        ("have", ("p", "y", "z"), NoSaying, {"name": "y"}),
        ("readers", ("ann", "eve", "fay"), NoReader, {"name": "eve"}),
        ("giver", "gil", NoReader, {"name": "gil"}), ("taker", "", NoReader, {"name": ""}),
        ("mill", WRONG, NoSetting, {}), ("other", "a", Unfit, {}),
    )

    def test_order(self):
        for function, words in self.KINDS:
            kinds = ["mill", *words.split()]
            # From the last fault on, one more is put ahead of those that are there each time.
            given = {**self.GOOD, "mill": MILL}
            for kind, value, error, shown in self.WRONG[::-1]:
                if kind not in kinds:
                    continue
                if error is Unfit and function not in (gifts, secret_kept):
                    continue
                given[kind] = value
                if function is put_together and error is NoSetting:
                    self.assertEqual(function(*[given[word] for word in kinds])[1], WRONG[1][1:3])
                else:
                    self.raises(error, shown, function, *[given[word] for word in kinds])

    def test_each_alone(self):
        for function, words in self.KINDS:
            kinds = ["mill", *words.split()]
            for kind, value, error, shown in self.WRONG:
                if kind in kinds and error not in (Unfit, NoSetting):
                    given = {**self.GOOD, "mill": MILL, kind: value}
                    self.raises(error, shown, function, *[given[word] for word in kinds])

    def test_is_sheets_asks_for_no_setting(self):
        self.assertIs(is_sheets(WRONG, SHEETS), True)

    def test_unfit(self):
        for end in ("", "a", "c"):
            self.raises(Unfit, {}, gifts, MILL, (), end, end)
            self.raises(Unfit, {}, secret_kept, MILL, (), end, end)


class Edges(Case):
    def test_nobody(self):
        for mill in (MILL, BARE, EDGES):
            end = mill[0][0][0]
            self.assertEqual((put_together(mill, (), ()), told(mill, (), (), "", end)), ((mill[0], ()), (0, 1)))
            self.assertEqual((needless_sheets(mill, ()), fewest_sheets(mill, ())), ((), ()))
            self.assertEqual((bands(mill, (), "", "", 7), bands(mill, (), "", end, 1)), (((),), ((),)))
            self.assertEqual((bands(mill, (), "", end, 0), secret_kept(mill, (), "", end)), ((), ((),)))
        self.assertEqual((needless_sheets(EMPTY, ()), fewest_sheets(EMPTY, ())), ((), ()))

    def test_empty_sheets(self):
        sheets = (("ann", ()), ("bob", ("p", "q", "r")), ("cy", ()))
        self.assertEqual((needless_sheets(MILL, sheets), fewest_sheets(MILL, sheets)), (("ann", "cy"), ("bob",)))
        self.assertEqual((learned(MILL, sheets, "ann", "bob"), bands(MILL, sheets, "c", "a", 12)), ((), (("bob",),)))
        self.assertEqual(secret_kept(MILL, sheets, "c", "a"), (("ann", "cy"),))
        self.assertEqual(learned(MILL, sheets, "bob", "cy"), (("a", "b", 3, 12), ("a", "c", 5, 12), ("b", "c", 2, 12)))

    def test_giver_is_taker(self):
        for reader in READERS:
            self.assertEqual(learned(MILL, SHEETS, reader, reader), ())

    def test_one_is_other(self):
        for end in ("", "b"):
            for readers in ((), READERS):
                self.assertEqual(told(MILL, SHEETS, readers, end, end), (0, 0))
                self.assertIsNone(paper_for(MILL, SHEETS, readers, end, end, 0))
                self.assertIs(is_paper_for(MILL, SHEETS, readers, end, end, 5, (BARE, BARE)), False)
            self.assertEqual([bands(MILL, SHEETS, end, end, dial) for dial in (0, 1, 12)], [((),)] * 3)

    def test_have_all(self):
        self.assertEqual(gifts(MILL, ("p", "q", "r"), "a", "c"), ())
        self.assertEqual(gifts(MILL, ("p", "q", "r"), "a", ""), ((),))
        self.assertEqual(gifts(MILL, (), "a", ""), (("p", "q", "r"),))
        self.assertEqual(gifts(BARE, (), "a", "b"), ((),))
        self.assertEqual(gifts(EDGES, (), "p", "qq"), (("a", "p", "q"), ("a", "q", "zzzzzzzz")))

    def test_dials_0_and_1(self):
        mill = (BARE[0], (("k", "a", "b", -4, 0), ("l", "b", "", 9, 0), ("m", "", "a", -5, 1), ("n", "a", "b", 0, 4)))
        sheets = (("x", ("k", "m")), ("y", ("l",)), ("z", ("n",)))
        shown = [told(mill, sheets, readers, "a", "") for readers in (("x", "y"), ("x",), ("x", "z"), ("y", "z"))]
        self.assertEqual(shown, [(5, 0), (0, 1), (0, 1), (1, 4)])
        self.assertEqual([bands(mill, sheets, "a", "", dial) for dial in (0, 8, 2, 1)],
                         [(("x", "y"),), (("x", "y"),), (("x", "y"), ("y", "z")), ((),)])
        self.assertEqual(secret_kept(mill, sheets, "a", ""), (("x", "z"), ("y",)))
        self.assertEqual(gifts(mill, ("l",), "a", ""), (("m",),))
        self.assertEqual(learned(mill, sheets, "z", "x"), ())
        self.assertEqual(learned(mill, sheets, "x", "z"), (("a", "b", -4, 0),))

    def test_papers_for_dial_0(self):
        for readers in ((), ("ann", "bob"), READERS):
            thing = paper_for(MILL, SHEETS, readers, "c", "a", 0)
            self.assertIs(is_paper_for(MILL, SHEETS, readers, "c", "a", 0, thing), True)

    def test_numbers_are_great(self):
        wheels = tuple((name, GREAT, 4) for name in "abcdefgh")
        row = tuple(("k" + other, one, other, -GREAT, GREAT) for one, other in zip("abcdefg", "bcdefgh"))
        mill = (wheels, row + (("x", "a", "h", -7 * GREAT, 3),))
        sheets = tuple((reader, (saying[0],)) for reader, saying in zip(("r", "s", "t", "u", "v"), mill[1]))
        sheets += (("w", ("kg", "kh", "x")),)
        self.assertEqual(told(mill, sheets, ("r", "s", "t", "u", "v", "w"), "a", "h"), (2 * GREAT, 3 * GREAT))
        self.assertEqual(bands(mill, sheets, "a", "h", 3 * GREAT), (("r", "s", "t", "u", "v", "w"),))
        self.assertEqual(bands(mill, sheets, "a", "h", 3), (("w",),))
        self.assertEqual((needless_sheets(mill, sheets), fewest_sheets(mill, sheets)), ((), tuple("rstuvw")))
        # Of GREAT and 3 the divisor is 1, so x tells nothing to go on with.
        self.assertEqual(len(gifts(mill, ("ke",), "a", "d")), 3)
        self.assertEqual(len(learned(mill, sheets, "w", "r")), 4)
        thing = paper_for(mill, sheets, ("r", "w"), "b", "h", 5 * GREAT)
        self.assertIs(is_paper_for(mill, sheets, ("r", "w"), "b", "h", 5 * GREAT, thing), True)


class GoneThrough(Case):
    DIALS = (1, 2, 3, 4, 6, 12)

    def cases(self, seed, many):
        """MILLS with SHEETS, and for each set of readers all BEGINS that keep what they have."""
        source = random.Random(seed)
        for wheels, sayings, dials in (
            (3, 4, (2, 3)), (2, 4, (2, 4, 6)), (2, 3, (0, 1, 4)), (3, 3, (2, 4)), (2, 0, (1,)),
        ):
            for mill, _ in kept_mills(source, many, wheels, sayings, dials):
                sheets = []
                for reader in READERS[:source.randrange(2, 5)]:
                    some = source.sample(names_of(mill), source.randrange(max(sayings, 1)))
                    sheets.append((reader, tuple(sorted(some))))
                number = fine_turn(mill, 12) // (1 if any(saying[4] == 0 for saying in mill[1]) else 2)
                yield mill, tuple(sheets), number

    def every_by(self, mill, sheets, number):
        lots = parts_of([name for name, _ in sheets])
        return {readers: begins_up_to(own_of(mill, sheets, readers), number) for readers in lots}

    def pairs(self, mill):
        return itertools.combinations(ends_of(mill), 2)

    def tells(self, every, one, other, number, dial):
        """Whether by all BEGINS that are so the late is told up to the dial, 0 being the number."""
        return len({late % (dial or number) for late in lates_up_to(every, one, other, number)}) == 1

    def tells_nothing(self, every, one, other, number):
        return lates_up_to(every, one, other, number) == set(range(number))

    def test_told(self):
        for mill, sheets, number in self.cases(141, 5):
            for readers, every in self.every_by(mill, sheets, number).items():
                own = put_together(mill, sheets, readers)
                self.assertEqual(own, own_of(mill, sheets, readers))
                self.assertIs(is_mill(own), True)
                for one, other in itertools.product(ends_of(mill), repeat=2):
                    late, dial = told(mill, sheets, readers, one, other)
                    right = lates_up_to(every, one, other, number)
                    if dial != 0 and number % dial == 0 and dial != number:
                        self.assertEqual(class_up_to((late, dial), number), right)
                    else:
                        self.assertEqual(right, {late % number})
                    self.assertEqual((late, dial), sure_late(own, one, other))

    def test_bands_and_papers(self):
        sizes = set()
        for mill, sheets, number in self.cases(142, 5):
            by_readers = self.every_by(mill, sheets, number)
            for one, other in self.pairs(mill):
                for dial in (0, *self.DIALS):
                    right = [
                        readers for readers, every in by_readers.items() if self.tells(every, one, other, number, dial)
                    ]
                    if dial == 0 and any(saying[4] == number for saying in mill[1]):
                        continue
                    shown = bands(mill, sheets, one, other, dial)
                    if dial == 0 and not any(saying[4] == 0 for saying in mill[1]):
                        self.assertEqual(shown, ())
                        continue
                    self.assertEqual(shown, tuple(sorted(least_parts(right))))
                    sizes.add(len(shown))
                    for readers in by_readers:
                        given = (mill, sheets, readers, one, other, dial)
                        thing = paper_for(*given)
                        self.assertIs(thing is None, readers in right)
                        self.assertIs(is_paper_for(*given, thing), readers not in right)
        self.assertTrue({0, 1, 2} <= sizes, sizes)

    def test_papers_gone_through(self):
        for mill, sheets, number in self.cases(143, 1):
            readers = tuple(name for name, _ in sheets[:2])
            own = own_of(mill, sheets, readers)
            every = [as_begins(begun) for begun in begins_up_to((mill[0], ()), 3)]
            for first, last in itertools.product(every[:9], every[-9:]):
                kept = all(keeps(begins, saying) for begins in (first, last) for saying in own[1])
                for one, other in self.pairs(mill):
                    far = [dict(begins).get(other, 0) - dict(begins).get(one, 0) for begins in (first, last)]
                    for dial in (0, 2, 3):
                        right = kept and ((far[1] - far[0]) % dial != 0 if dial else far[0] != far[1])
                        self.assertIs(is_paper_for(mill, sheets, readers, one, other, dial, (first, last)), right)

    def test_gifts(self):
        sizes = set()
        for mill, _, number in self.cases(144, 6):
            nothing = {}
            for part in parts_of(names_of(mill)):
                every = begins_up_to(just(mill, part), number)
                nothing[part] = {pair for pair in self.pairs(mill) if self.tells_nothing(every, *pair, number)}
            for have in parts_of(names_of(mill)):
                others = [name for name in names_of(mill) if name not in have]
                for one, other in self.pairs(mill):
                    all_had = {part: tuple(sorted((*have, *part))) for part in parts_of(others)}
                    right = [part for part, had in all_had.items() if (one, other) in nothing[had]]
                    shown = gifts(mill, have, one, other)
                    self.assertEqual(shown, tuple(sorted(greatest_parts(right))))
                    self.assertEqual(gifts(mill, have, other, one), shown)
                    sizes.add(len(shown))
        self.assertTrue({0, 1, 2} <= sizes, sizes)

    def test_secrets(self):
        sizes = set()
        for mill, sheets, number in self.cases(145, 8):
            by_readers = self.every_by(mill, sheets, number)
            for one, other in self.pairs(mill):
                right = [
                    readers for readers, every in by_readers.items() if self.tells_nothing(every, one, other, number)
                ]
                shown = secret_kept(mill, sheets, other, one)
                self.assertEqual(shown, tuple(sorted(greatest_parts(right))))
                sizes.add(len(shown))
        self.assertTrue({1, 2} <= sizes, sizes)

    def all_lates(self, mill, every, number):
        return {pair: lates_up_to(every, *pair, number) for pair in self.pairs(mill)}

    def test_learned(self):
        found = 0
        for mill, sheets, number in self.cases(146, 8):
            by_readers = self.every_by(mill, sheets, number)
            for giver, taker in itertools.product([name for name, _ in sheets], repeat=2):
                both = self.all_lates(mill, by_readers[tuple(sorted({giver, taker}))], number)
                alone = self.all_lates(mill, by_readers[taker,], number)
                shown = learned(mill, sheets, giver, taker)
                right = [pair for pair in sorted(both) if both[pair] != alone[pair]]
                self.assertEqual([row[:2] for row in shown], right)
                for one, other, late, dial in shown:
                    self.assertEqual((late, dial), told(mill, sheets, tuple(sorted({giver, taker})), one, other))
                found += len(shown)
        self.assertGreater(found, 50)

    def test_needless_and_fewest(self):
        sizes = set()
        for mill, sheets, number in self.cases(147, 10):
            by_readers = self.every_by(mill, sheets, number)
            names = tuple(name for name, _ in sheets)
            lates = {readers: self.all_lates(mill, every, number) for readers, every in by_readers.items()}
            enough = [readers for readers in by_readers if lates[readers] == lates[names]]
            gone = tuple(name for name in names if tuple(other for other in names if other != name) in enough)
            self.assertEqual(needless_sheets(mill, sheets), gone)
            self.assertEqual(fewest_sheets(mill, sheets), fewest_part(enough))
            sizes.add((len(gone), len(fewest_part(enough))))
        self.assertTrue({(0, 2), (1, 2)} <= sizes, sizes)


class Things(Case):
    def test_sheets(self):
        for mill in (MILL, WRONG, EDGES, EMPTY):
            for sheets in (
                SHEETS, (("zed", ("p", "q")), ("zz", ())), (("p", ()), ("p", ("a",))), (("a1", ()),),
                (("b", ()), ("a", ())),
            ):
                for thing in changed(sheets):
                    self.assertIs(is_sheets(mill, thing), self.ought_sheets(mill, thing), repr(thing)[:200])
        many = tuple((first + second, ("p",)) for first in "abcdefgh" for second in "klmn")
        self.assertIs(is_sheets(MILL, many), True)
        for thing in ODD:
            self.assertIs(is_sheets(MILL, thing), thing == (), repr(thing)[:200])

    def ought_sheets(self, mill, thing):
        if type(thing) is not tuple or not all(type(row) is tuple and len(row) == 2 for row in thing):
            return False
        for reader, names in thing:
            if not ought_name(reader) or type(names) is not tuple or not all(type(name) is str for name in names):
                return False
            if list(names) != sorted(set(names)) or not set(names) <= set(names_of(mill)):
                return False
        readers = [reader for reader, _ in thing]
        return readers == sorted(set(readers))

    def test_pairs(self):
        pair = paper_for(MILL, SHEETS, ("ann", "cy"), "a", "c", 4)
        own = own_of(MILL, SHEETS, ("ann", "cy"))
        for thing in (*changed(pair), *ODD):
            right = type(thing) is tuple and len(thing) == 2 and all(is_setting(own, setting) for setting in thing)
            if right:
                first, last = [dict(setting)["c"] - dict(setting)["a"] for setting in thing]
                right = (last - first) % 4 != 0
            self.assertIs(is_paper_for(MILL, SHEETS, ("ann", "cy"), "a", "c", 4, thing), right, repr(thing)[:200])
            self.raises(NoSetting, {}, is_paper_for, SQUARE, (), (), "a", "c", 4, thing)


if __name__ == "__main__":
    unittest.main()
