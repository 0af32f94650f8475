import itertools
import random
import unittest

from tests.brute import keeps, small_mills
from tests.case import Case
from tests.samples import BARE, BEGINS, EDGES, EMPTY, FURTHER, GREAT, MILL, MILLS
from wheelmarks.errors import NoSaying, NoWheel, Twice, Unfit
from wheelmarks.mills import (
    is_begins, is_mill, is_setting, last_show, next_show, off_by, renamed, shifted, showing, shows_at, tidied,
    turned_saying, unkept, with_saying, with_wheel, without_saying, without_wheel,
)


class Examples(Case):
    def test_kinds(self):
        told = (
            is_mill(MILL), is_mill(((), ())), is_mill(((), (("p", "", "", 0, 1),))), is_setting(MILL, BEGINS),
            is_begins(MILL, FURTHER), is_setting(MILL, FURTHER),
        )
        self.assertEqual(told, (True, True, False, True, True, False))

    def test_off(self):
        told = off_by(MILL, FURTHER, "q"), off_by(MILL, FURTHER, "r"), unkept(MILL, FURTHER), showing(MILL, BEGINS, 11)
        self.assertEqual(told, (2, 0, ("q",), ("b", "c")))

    def test_shows(self):
        wheel = ("b", 8, 2)
        told = shows_at(wheel, 3, -4), next_show(wheel, 3, 5), last_show(wheel, 3, 10), next_show(wheel, 3, 12)
        self.assertEqual(told, (True, 11, 4, 12))

    def test_other_sayings(self):
        told = turned_saying(MILL, "q")[1][1], tidied(turned_saying(MILL, "q"))[1][1], shifted(MILL, "b", 2)[1]
        self.assertEqual(told, (
            ("q", "c", "b", -2, 4), ("q", "c", "b", 2, 4),
            (("p", "a", "b", 5, 12), ("q", "b", "c", 0, 4), ("r", "a", "c", 5, 6)),
        ))

    def test_other_wheels(self):
        fewer = without_saying((MILL[0], MILL[1][1:]), "r")
        self.assertEqual(renamed(MILL, (("a", "c"), ("c", "a")))[0], (("a", 6, 1), ("b", 8, 2), ("c", 12, 1)))
        self.assertEqual(without_wheel(fewer, "a"), ((("b", 8, 2), ("c", 6, 1)), (("q", "b", "c", 2, 4),)))
        self.raises(Unfit, {}, without_wheel, MILL, "a")


class Kinds(Case):
    def test_mills_of_all_sizes(self):
        for mill in MILLS:
            self.assertIs(is_mill(mill), True)
        names = [one + other for one in "abcdefghij" for other in "abcdefghij"]
        many = tuple((name, 9, 9) for name in names)
        tied = tuple((name, "", name, 1, 0) for name in names)
        self.assertIs(is_mill((many, tied)), True)
        self.assertIs(is_mill((many[::-1], tied)), False)
        self.assertIs(is_mill((many, tied[::-1])), False)

    def test_long_is_from_1_to_round(self):
        for shown, right in ((0, False), (1, True), (7, True), (8, False), (-1, False), (True, False)):
            self.assertIs(is_mill(((("a", 7, shown),), ())), right)
        self.assertIs(is_mill(((("a", 0, 0),), ())), False)
        self.assertIs(is_mill(((("a", True, 1),), ())), False)

    def test_names_of_one_to_eight_letters(self):
        names = {"z": True, "abcdefgh": True, "": False, "abcdefghi": False, "aB": False, "a b": False, "a\n": False}
        for name, right in names.items():
            self.assertIs(is_mill((((name, 1, 1),), ())), right)
            self.assertIs(is_mill(((("b", 1, 1),), ((name, "", "b", 0, 0),))), right)

    def test_sayings(self):
        for saying, right in (
            (("p", "", "b", -GREAT, 0), True), (("b", "b", "", 0, GREAT), True), (("p", "b", "b", 0, 1), False),
            (("p", "b", "c", 0, 1), False), (("p", "", "b", 0, -1), False), (("p", "", "b", 0, False), False),
            (("p", "", "b", True, 2), False), (("p", "", "b", 0), False), (("p", "", "b", 0, 2, 0), False),
            (["p", "", "b", 0, 2], False), (("p", [], "b", 0, 2), False), (("p", "", None, 0, 2), False),
        ):
            self.assertIs(is_mill(((("b", 2, 1),), (saying,))), right, saying)

    def test_begins(self):
        self.assertIs(is_begins(EMPTY, ()), True)
        self.assertIs(is_setting(EMPTY, ()), True)
        self.assertIs(is_begins(EMPTY, []), False)
        self.assertIs(is_begins(MILL, BEGINS[:2]), False)
        self.assertIs(is_begins(MILL, BEGINS[::-1]), False)
        self.assertIs(is_begins(MILL, (("", 0),) + BEGINS), False)
        self.assertIs(is_begins(MILL, (("a", False),) + BEGINS[1:]), False)
        self.assertIs(is_setting(BARE, FURTHER), True)

    def test_a_round_further_shows_alike_and_is_no_setting(self):
        for tick in range(-30, 30):
            self.assertEqual(showing(MILL, BEGINS, tick), showing(MILL, FURTHER, tick))
        self.assertIs(is_setting(MILL, FURTHER), False)


class Off(Case):
    def test_dials(self):
        for late, dial, told in ((5, 0, 2), (9, 0, -2), (7, 0, 0), (5, 1, 0), (9, 4, 2), (-GREAT, 10, 7), (8, 3, 2)):
            mill = (("a", 3, 1), ("b", 3, 1)), (("s", "a", "b", late, dial),)
            self.assertEqual(off_by(mill, (("a", -2), ("b", 5)), "s"), told)
            self.assertEqual(unkept(mill, (("a", -2), ("b", 5))), ("s",) if told else ())

    def test_the_crank_begins_at_0(self):
        mill = (("a", 3, 1),), (("s", "", "a", 4, 0), ("t", "a", "", 4, 0))
        self.assertEqual((off_by(mill, (("a", 9),), "s"), off_by(mill, (("a", 9),), "t")), (5, -13))
        self.assertEqual(unkept(mill, (("a", 4),)), ("t",))
        self.assertEqual(unkept(mill, (("a", -4),)), ("s",))

    def test_great_numbers(self):
        begins = (("p", -GREAT), ("q", 1 - GREAT), ("qq", 1 - 2 * GREAT))
        self.assertIs(is_setting(EDGES, begins), True)
        self.assertEqual(unkept(EDGES, (("p", 0), ("q", 0), ("qq", 1))), ("p", "zzzzzzzz"))
        self.assertEqual(off_by(EDGES, (("p", 0), ("q", 0), ("qq", 1)), "zzzzzzzz"), -GREAT - 1)

    def test_no_saying(self):
        self.raises(NoSaying, {"name": "a"}, off_by, MILL, BEGINS, "a")
        self.raises(NoSaying, {"name": ""}, off_by, EMPTY, (), "")


class Shows(Case):
    def test_gone_through(self):
        for turn, shown in ((1, 1), (2, 1), (5, 2), (5, 5), (7, 4)):
            for begin in (-9, 0, 4):
                wheel = ("a", turn, shown)
                ticks = {begin + turn * times + at for times in range(-20, 20) for at in range(shown)}
                for tick in range(-8, 8):
                    self.assertIs(shows_at(wheel, begin, tick), tick in ticks)
                    self.assertEqual(next_show(wheel, begin, tick), min(at for at in ticks if at >= tick))
                    self.assertEqual(last_show(wheel, begin, tick), max(at for at in ticks if at <= tick))
                    self.assertIs(shows_at(wheel, begin + turn, tick), tick in ticks)

    def test_great_numbers(self):
        wheel = ("a", GREAT, 4)
        self.assertEqual(next_show(wheel, -GREAT, 4), GREAT)
        self.assertEqual(last_show(wheel, -GREAT, GREAT - 1), 3)
        self.assertEqual(next_show(wheel, 5, -GREAT), 5 - GREAT)
        self.assertEqual(last_show(wheel, 5, 4), 8 - GREAT)
        self.assertIs(shows_at(wheel, GREAT, -3 * GREAT + 3), True)
        self.assertIs(shows_at(wheel, GREAT, -3 * GREAT + 4), False)

    def test_showing(self):
        self.assertEqual(showing(EMPTY, (), 5), ())
        self.assertEqual(showing(MILL, BEGINS, -13), ("b", "c"))
        self.assertEqual(showing(MILL, BEGINS, 0), ("a",))
        self.assertEqual(showing(MILL, BEGINS, 1), ())


class Changes(Case):
    def test_with_and_without_wheel(self):
        self.assertEqual(with_wheel(EMPTY, ("k", 3, 3)), ((("k", 3, 3),), ()))
        self.assertEqual(with_wheel(MILL, ("ab", 1, 1))[0], (MILL[0][0], ("ab", 1, 1), *MILL[0][1:]))
        self.assertEqual(with_wheel(MILL, ("p", 1, 1))[0][-1], ("p", 1, 1))
        for name in "dz":
            self.assertEqual(without_wheel(with_wheel(MILL, (name, 5, 2)), name), MILL)

    def test_wheel_errors(self):
        self.raises(Twice, {"name": "b"}, with_wheel, MILL, ("b", 3, 1))
        self.raises(NoWheel, {"name": "d"}, without_wheel, MILL, "d")
        self.raises(NoWheel, {"name": "p"}, without_wheel, MILL, "p")
        self.raises(NoWheel, {"name": ""}, without_wheel, MILL, "")
        self.raises(Unfit, {}, without_wheel, MILL, "c")
        self.raises(Unfit, {}, without_wheel, EDGES, "qq")

    def test_with_and_without_saying(self):
        for saying in (("a", "", "c", 4, 0), ("pp", "c", "b", -GREAT, 7), ("z", "a", "", 0, 1)):
            told = with_saying(MILL, saying)
            self.assertEqual(told, (MILL[0], tuple(sorted((saying, *MILL[1])))))
            self.assertEqual(without_saying(told, saying[0]), MILL)

    def test_saying_errors_in_their_order(self):
        for saying, kind, told in (
            (("p", "x", "y", 0, 1), NoWheel, {"name": "x"}), (("p", "a", "y", 0, 1), NoWheel, {"name": "y"}),
            (("p", "p", "p", 0, 1), NoWheel, {"name": "p"}), (("p", "", "A", 0, 1), NoWheel, {"name": "A"}),
            (("p", "a", "a", 0, 1), Twice, {"name": "p"}), (("p", "", "", 0, 1), Twice, {"name": "p"}),
            (("p", "a", "b", 0, 1), Twice, {"name": "p"}), (("s", "a", "a", 0, 1), Unfit, {}),
            (("s", "", "", 0, 1), Unfit, {}), (("a", "y", "y", 0, 1), NoWheel, {"name": "y"}),
        ):
            self.raises(kind, told, with_saying, MILL, saying)
        self.raises(NoSaying, {"name": "a"}, without_saying, MILL, "a")
        self.raises(NoSaying, {"name": "a"}, turned_saying, MILL, "a")
        self.raises(NoSaying, {"name": ""}, turned_saying, EMPTY, "")

    def test_turned_and_tidied(self):
        self.assertEqual(turned_saying(turned_saying(EDGES, "a"), "a"), EDGES)
        self.assertEqual(turned_saying(EDGES, "a")[1][0], ("a", "p", "", GREAT, GREAT))
        self.assertEqual([saying[3] for saying in tidied(EDGES)[1]], [0, -1, 0, GREAT])
        self.assertEqual(tidied(EMPTY), EMPTY)

    def test_turned_and_tidied_have_the_same_settings(self):
        for mill in small_mills(random.Random(1), 20, 2, 3, (0, 1, 2, 3), range(-4, 5)):
            others = [tidied(mill), *[turned_saying(mill, saying[0]) for saying in mill[1]]]
            for numbers in itertools.product(range(-4, 5), repeat=2):
                begins = tuple(zip("ab", numbers))
                for other in others:
                    self.assertIs(is_mill(other), True)
                    self.assertIs(is_setting(other, begins), is_setting(mill, begins))

    def test_shifted(self):
        for mill in small_mills(random.Random(2), 20, 2, 3, (0, 1, 2, 3, 4), range(-4, 5)):
            for ticks in (-3, 0, 1, GREAT):
                later = shifted(mill, "b", ticks)
                self.assertIs(is_mill(later), True)
                for first, second in itertools.product(range(-3, 4), repeat=2):
                    here, there = (("a", first), ("b", second + ticks)), (("a", first), ("b", second))
                    self.assertIs(is_setting(later, here), is_setting(mill, there))
        for name in ("", "p", "z"):
            self.raises(NoWheel, {"name": name}, shifted, MILL, name, 1)

    def test_renamed(self):
        self.assertEqual(renamed(MILL, ()), MILL)
        self.assertEqual(renamed(MILL, (("b", "b"),)), MILL)
        self.assertEqual(renamed(MILL, (("c", "a"), ("a", "b"), ("b", "zz"))), (
            (("a", 6, 1), ("b", 12, 1), ("zz", 8, 2)),
            (("p", "b", "zz", 3, 12), ("q", "zz", "a", 2, 4), ("r", "b", "a", 5, 6)),
        ))
        self.assertEqual(renamed(EDGES, (("p", "w"),))[1][:2], (("a", "", "w", -GREAT, GREAT), ("p", "q", "w", -1, 0)))

    def test_renamed_errors_in_their_order(self):
        mill = with_wheel(MILL, ("d", 2, 1))
        for pairs, kind, told in (
            ((("z", "b"), ("y", "b")), NoWheel, {"name": "z"}), ((("a", "b"), ("y", "b")), NoWheel, {"name": "y"}),
            ((("", "e"),), NoWheel, {"name": ""}), ((("p", "e"),), NoWheel, {"name": "p"}),
            ((("a", "d"), ("b", "c")), Twice, {"name": "c"}), ((("a", "e"), ("b", "e")), Twice, {"name": "e"}),
            ((("d", "x"), ("b", "x"), ("a", "c")), Twice, {"name": "c"}), ((("a", "b"),), Twice, {"name": "b"}),
        ):
            self.raises(kind, told, renamed, mill, pairs)

    def test_unkept_is_gone_through(self):
        for mill in small_mills(random.Random(3), 30, 3, 5, (0, 1, 2, 3, 4), range(-4, 5)):
            for numbers in itertools.product((-1, 0, 2, 3), repeat=3):
                begins = tuple(zip("abc", numbers))
                told = tuple(saying[0] for saying in mill[1] if not keeps(begins, saying))
                self.assertEqual(unkept(mill, begins), told)
                for saying in mill[1]:
                    self.assertIs(off_by(mill, begins, saying[0]) == 0, keeps(begins, saying))


if __name__ == "__main__":
    unittest.main()
