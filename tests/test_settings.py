import itertools
import random
import unittest

from tests.brute import as_begins, begins_up_to, keeps, kept_mills, turn_of
from tests.case import Case
from tests.samples import BARE, EDGES, EMPTY, GREAT, SQUARE, WRONG, changed
from wheelmarks.errors import NoNumber, NoSetting, NoWheel, Unfit
from wheelmarks.mills import is_begins, is_setting
from wheelmarks.settings import (
    common_dial, dials_ahead, hinders, how_many, is_move, least_setting, moves, nth_up_to, setting_with, stepped,
    steps_to,
)

MILL = ((("a", 2, 1), ("b", 4, 1), ("c", 4, 1)), (("p", "a", "b", 1, 2), ("q", "b", "c", 2, 4)))
HELD = (MILL[0], MILL[1] + (("r", "", "a", -3, 0),))
TIED = (MILL[0], (("p", "a", "c", -5, 0), ("q", "", "b", 7, 3)))
DIALS = (0, 1, 2, 3, 4, 6, 6)


class Examples(Case):
    def test_mill(self):
        self.assertEqual(least_setting(MILL), (("a", 0), ("b", 1), ("c", 3)))
        self.assertEqual(dials_ahead(MILL), (1, 2, 4))
        self.assertEqual(moves(MILL), (
            (("a", 1), ("b", 1), ("c", 1)), (("a", 0), ("b", 2), ("c", 2)), (("a", 0), ("b", 0), ("c", 4)),
        ))
        told = (
            setting_with(MILL, (("c", 0),)), hinders(MILL, (("a", 0), ("c", 0))), hinders(MILL, (("a", 0), ("c", 5))),
        )
        self.assertEqual(told, ((("a", 1), ("b", 2), ("c", 0)), ("a", "c"), None))

    def test_steps(self):
        goal = (("a", 1), ("b", 2), ("c", 0))
        self.assertEqual(steps_to(MILL, least_setting(MILL), goal), (1, 0, -1))
        self.assertEqual(stepped(least_setting(MILL), moves(MILL), (1, 0, -1)), goal)
        told = common_dial(MILL), how_many(MILL, 4), nth_up_to(MILL, 4, 5), is_move(MILL, (("a", 3), ("b", 5), ("c", 9)))
        self.assertEqual(told, (4, 8, (("a", 2), ("b", 3), ("c", 1)), True))

    def test_held(self):
        told = least_setting(HELD), dials_ahead(HELD), hinders(HELD, (("b", 1),))
        self.assertEqual(told, ((("a", -3), ("b", 0), ("c", 2)), (0, 2, 4), ("", "b")))

    def test_refused(self):
        self.raises(Unfit, {}, how_many, MILL, 6)
        self.raises(NoNumber, {"number": 8}, nth_up_to, MILL, 4, 8)
        self.raises(NoWheel, {"name": "z"}, setting_with, MILL, (("a", 0), ("z", 0)))


class Errors(Case):
    def test_no_wheel_then_no_setting_then_unfit(self):
        for function in (setting_with, hinders):
            self.raises(NoWheel, {"name": "d"}, function, WRONG, (("a", 0), ("d", 0), ("e", 0)))
            self.raises(NoWheel, {"name": ""}, function, WRONG, (("", 0), ("a", 0)))
            self.raises(NoWheel, {"name": "p"}, function, MILL, (("p", 0),))
            self.raises(NoSetting, {}, function, WRONG, (("a", 0), ("b", 0)))
            self.raises(NoSetting, {}, function, SQUARE, ())
        self.raises(Unfit, {}, setting_with, MILL, (("a", 0), ("c", 0)))
        self.raises(Unfit, {}, setting_with, HELD, (("b", 1),))

    def test_no_setting(self):
        setting = (("a", 0), ("b", 0), ("c", 0))
        for function, *more in (
            (least_setting,), (dials_ahead,), (moves,), (steps_to, setting, setting), (how_many, 7), (nth_up_to, 7, -1),
        ):
            self.raises(NoSetting, {}, function, WRONG, *more)

    def test_unfit_ahead_of_no_number(self):
        for place in (-1, 0, GREAT):
            self.raises(Unfit, {}, nth_up_to, MILL, 6, place)
        for place in (-1, -GREAT, 8, GREAT):
            self.raises(NoNumber, {"number": place}, nth_up_to, MILL, 4, place)

    def test_none_without_a_setting(self):
        self.assertEqual(common_dial(WRONG), 36)
        self.assertIs(is_move(WRONG, (("a", 0), ("b", 0), ("c", 0))), True)
        self.assertIs(is_move(WRONG, (("a", 9), ("b", 21), ("c", 9))), True)
        self.assertIs(is_move(WRONG, (("a", 8), ("b", 20), ("c", 8))), False)
        self.assertEqual(stepped((), (), ()), ())


class Edges(Case):
    def test_without_wheels_or_sayings(self):
        self.assertEqual((least_setting(EMPTY), dials_ahead(EMPTY), moves(EMPTY), common_dial(EMPTY)), ((), (), (), 1))
        self.assertEqual((setting_with(EMPTY, ()), hinders(EMPTY, ()), steps_to(EMPTY, (), ())), ((), None, ()))
        self.assertEqual((how_many(EMPTY, 1), how_many(EMPTY, GREAT), nth_up_to(EMPTY, 5, 0)), (1, 1, ()))
        self.raises(NoNumber, {"number": 1}, nth_up_to, EMPTY, 5, 1)
        self.raises(NoNumber, {"number": -1}, nth_up_to, EMPTY, 5, -1)
        self.assertIs(is_move(EMPTY, ()), True)
        alone = ((("a", 1), ("b", 0), ("c", 0)), (("a", 0), ("b", 1), ("c", 0)), (("a", 0), ("b", 0), ("c", 1)))
        self.assertEqual((moves(BARE), dials_ahead(BARE), how_many(BARE, 1)), (alone, (1, 1, 1), 1))
        self.assertEqual(nth_up_to(BARE, 10, 725), (("a", 7), ("b", 2), ("c", 5)))

    def test_begins_of_any_number(self):
        self.assertEqual(setting_with(BARE, (("b", -7),)), (("a", 0), ("b", -7), ("c", 0)))
        self.assertEqual(setting_with(MILL, (("b", -GREAT),)), (("a", 1), ("b", -GREAT), ("c", 2)))
        self.assertEqual(setting_with(TIED, (("c", 0),)), (("a", 5), ("b", 1), ("c", 0)))
        self.assertEqual(least_setting(TIED), (("a", 0), ("b", 1), ("c", -5)))

    def test_dial_0_and_dial_1(self):
        self.assertEqual((dials_ahead(TIED), common_dial(TIED)), ((1, 3, 0), 3))
        self.assertEqual(moves(TIED), ((("a", 1), ("b", 0), ("c", 1)), (("a", 0), ("b", 3), ("c", 0))))
        self.assertEqual((how_many(TIED, 3), how_many(TIED, 6)), (3, 12))
        told = [nth_up_to(TIED, 3, place) for place in range(3)]
        self.assertEqual(told, [tuple(zip("abc", begins)) for begins in ((0, 1, 1), (1, 1, 2), (2, 1, 0))])
        self.assertEqual(steps_to(TIED, least_setting(TIED), (("a", -2), ("b", -2), ("c", -7))), (-2, -1))
        self.assertIs(is_move(TIED, (("a", 2), ("b", 3), ("c", 2))), True)
        self.assertIs(is_move(TIED, (("a", 2), ("b", 3), ("c", 5))), False)
        self.assertIs(is_move(TIED, (("a", 0), ("b", 1), ("c", 0))), False)
        whole = (BARE[0], tuple((name, "", name, 7, 0) for name in "abc"))
        self.assertEqual((moves(whole), dials_ahead(whole), how_many(whole, GREAT)), ((), (0, 0, 0), 1))
        self.assertEqual((steps_to(whole, least_setting(whole), least_setting(whole)), common_dial(whole)), ((), 1))
        self.assertEqual(nth_up_to(whole, 4, 0), (("a", 3), ("b", 3), ("c", 3)))

    def test_least_pair_hinders(self):
        begins = (("a", 0), ("b", 0), ("c", 0))
        self.assertEqual(hinders(MILL, begins), ("a", "b"))
        self.assertEqual(hinders(MILL, begins[1:]), ("b", "c"))
        self.assertEqual(hinders(HELD, begins), ("", "a"))
        self.assertEqual(hinders(HELD, begins[1:]), ("b", "c"))
        self.assertEqual(hinders(HELD, begins[2:]), None)
        self.assertEqual(hinders(MILL, ()), None)

    def test_numbers_are_great(self):
        self.assertIs(is_setting(EDGES, least_setting(EDGES)), True)
        self.assertEqual(least_setting(EDGES), (("p", 0), ("q", 1), ("qq", 1 - GREAT)))
        self.assertEqual(dials_ahead(EDGES), (GREAT, 0, 0))
        self.assertEqual(how_many(EDGES, 7 * GREAT), 7)
        self.assertEqual(nth_up_to(EDGES, 7 * GREAT, 6), (("p", 6 * GREAT), ("q", 6 * GREAT + 1), ("qq", 5 * GREAT + 1)))
        wheels = tuple((name, GREAT, 4) for name in "abcdefgh")
        row = tuple((name, name, other, -GREAT, GREAT - at) for at, (name, other) in enumerate(zip("abcdefg", "bcdefgh")))
        mill = (wheels, row)
        number = common_dial(mill)
        many = how_many(mill, number)
        self.assertEqual(many * (GREAT - 6) * (GREAT - 5), number ** 8 // self.product(GREAT - at for at in range(5)))
        last = nth_up_to(mill, number, many - 1)
        self.assertEqual(last[0], ("a", number - 1))
        self.assertIs(is_setting(mill, last), True)
        self.raises(NoNumber, {"number": many}, nth_up_to, mill, number, many)
        self.raises(Unfit, {}, how_many, mill, number + 1)
        self.assertEqual(steps_to(mill, least_setting(mill), stepped(least_setting(mill), moves(mill), range(8))),
                         tuple(range(8)))

    def product(self, numbers):
        found = 1
        for number in numbers:
            found *= number
        return found


class GoneThrough(Case):
    def check_laid(self, mill, number, every):
        """Of all begins up to the number: which go on, what hinders, what is laid with them."""
        names = [wheel[0] for wheel in mill[0]]
        for chosen in itertools.chain(*[itertools.combinations(names, many) for many in range(len(names) + 1)]):
            known = {tuple(begun[name] for name in chosen) for begun in every}
            for begins in itertools.product(range(number), repeat=len(chosen)):
                given = tuple(zip(chosen, begins))
                pair = hinders(mill, given)
                ties = any(saying[4] == 0 for saying in mill[1])
                if begins not in known:
                    self.assertIsNotNone(pair)
                    self.raises(Unfit, {}, setting_with, mill, given)
                elif not ties:
                    self.assertIsNone(pair)
                if pair is None:
                    self.check_least(mill, given, number, every, setting_with(mill, given))
                else:
                    self.check_hinder(pair, dict(given), number, every)

    def check_hinder(self, pair, given, number, every):
        apart = []
        for one, other in itertools.combinations(sorted(["", *given]), 2):
            lates = {(begun[other] - begun[one]) % number for begun in every}
            if (given[other] - given.get(one, 0)) % number not in lates:
                apart.append((one, other))
        # With dials 0 two begins can be apart though up to the number they are not.
        self.assertTrue(pair == min(apart, default=pair) or pair < min(apart))

    def check_least(self, mill, given, number, every, setting):
        self.assertIs(is_setting(mill, setting), True)
        self.assertTrue(set(given) <= set(setting))
        laid = dict(given)
        left = [begun for begun in every if all(begun[name] == begin % number for name, begin in laid.items())]
        for name, begin in setting:
            if name not in laid:
                least = min(begun[name] for begun in left)
                free = {begun[name] for begun in left}
                self.assertEqual(begin % number, least % number if len(free) == 1 else least)
                if len(free) > 1:
                    self.assertEqual(begin, least)
                left = [begun for begun in left if begun[name] == begin % number]

    def test_laid(self):
        source = random.Random(41)
        for wheels, sayings, dials in ((2, 3, (1, 2, 3, 4)), (2, 3, (0, 2, 3)), (3, 4, (2, 3)), (3, 3, (0, 2, 4)), (1, 2, DIALS)):
            for mill, _ in kept_mills(source, 8, wheels, sayings, dials):
                number = turn_of(mill)
                self.check_laid(mill, number, begins_up_to(mill, number))

    def test_counted(self):
        source = random.Random(42)
        for wheels, sayings, dials in ((3, 4, (1, 2, 3, 4)), (3, 4, (0, 2, 3, 6)), (2, 2, DIALS), (1, 1, DIALS), (2, 0, DIALS)):
            for mill, _ in kept_mills(source, 10, wheels, sayings, dials):
                for number in (turn_of(mill) // 2, turn_of(mill)):
                    every = sorted(as_begins(begun) for begun in begins_up_to(mill, number))
                    self.assertEqual(how_many(mill, number), len(every))
                    for place, begins in list(enumerate(every))[:150]:
                        self.assertEqual(nth_up_to(mill, number, place), begins)
                    self.assertEqual(nth_up_to(mill, number, len(every) - 1), every[-1])
                    for place in (-1, len(every)):
                        self.raises(NoNumber, {"number": place}, nth_up_to, mill, number, place)
                self.assertEqual(common_dial(mill), turn_of(mill) // 2)

    def test_moves(self):
        source = random.Random(43)
        for wheels, sayings, dials in ((3, 4, (0, 1, 2, 3, 4)), (3, 3, (0, 2, 3, 6)), (4, 5, DIALS), (1, 1, DIALS)):
            for mill, setting in kept_mills(source, 10, wheels, sayings, dials):
                self.check_moves(mill, setting)

    def check_moves(self, mill, setting):
        level = (mill[0], tuple((*saying[:3], 0, saying[4]) for saying in mill[1]))
        dials, told = dials_ahead(mill), moves(mill)
        moved = [at for at, dial in enumerate(dials) if dial != 0]
        self.assertEqual(len(told), len(moved))
        for at, move in zip(moved, told):
            self.assertIs(is_move(mill, move), True)
            self.assertTrue(all(keeps(move, saying) for saying in level[1]))
            ahead = tuple((name, 0) for name, _ in move[:at])
            self.assertEqual(move[:at + 1], (*ahead, (move[at][0], dials[at])))
            self.assertEqual(move, setting_with(level, move[:at + 1]))
            for fewer in range(1, min(dials[at], 9)):
                self.assertIsNotNone(hinders(level, (*ahead, (move[at][0], fewer))))
        for numbers in ([0] * len(told), [1, -2, 3, 5][:len(told)], [-GREAT, 4, 1, 0][:len(told)]):
            goal = stepped(setting, told, numbers)
            ought = [begin + sum(times * move[at][1] for move, times in zip(told, numbers))
                     for at, (_, begin) in enumerate(setting)]
            self.assertEqual([begin for _, begin in goal], ought)
            self.assertIs(is_setting(mill, goal), True)
            self.assertEqual(steps_to(mill, setting, goal), tuple(numbers))
            self.assertEqual(steps_to(mill, goal, setting), tuple(-times for times in numbers))
        number = turn_of(mill)
        if not any(saying[4] == 0 for saying in mill[1]):
            for begun in begins_up_to(mill, number)[:60]:
                goal = as_begins(begun)
                self.assertEqual(stepped(setting, told, steps_to(mill, setting, goal)), goal)


class Things(Case):
    def test_moves(self):
        for mill in (MILL, HELD, TIED, EDGES, WRONG):
            level = (mill[0], tuple((*saying[:3], 0, saying[4]) for saying in mill[1]))
            known = moves(mill) if mill != WRONG else ((("a", 9), ("b", 21), ("c", 9)),)
            for move in known[:1]:
                for thing in changed(move):
                    right = is_begins(mill, thing) and all(keeps(thing, saying) for saying in level[1])
                    self.assertIs(is_move(mill, thing), right, repr(thing)[:200])


if __name__ == "__main__":
    unittest.main()
