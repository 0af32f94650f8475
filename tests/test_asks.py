import itertools
import random
import unittest

from tests.brute import as_begins, begins_up_to, kept_mills, parts_of, turn_of
from tests.case import Case
from tests.samples import BARE, EDGES, EMPTY, GREAT, ODD, SQUARE, WRONG, changed
from wheelmarks.asks import (
    answers, best_ask, comes_to, fewest_asks, how_many_answers, is_ask, is_unlike_after, left_by, needless_asks,
    rows_of_answers, tells_new, unlike_after,
)
from wheelmarks.errors import NoSetting, NoWheel, Twice, Unfit
from wheelmarks.mills import is_mill, is_setting
from wheelmarks.rings import can_be_kept

HOST = ((("a", 6, 1), ("b", 6, 1), ("c", 6, 1)), (("p", "a", "b", 1, 2),))
FREE, ASKS, GOAL = (HOST[0], ()), (("a", "b", 2), ("b", "c", 4), ("a", "c", 3)), ("a", "c", 6)
ROUND = (("a", "b", 2), ("b", "c", 2), ("c", "a", 2))


def ends_of(mill):
    return ["", *[wheel[0] for wheel in mill[0]]]


def some_asks(source, mill, many, dials):
    return tuple((*source.sample(ends_of(mill), 2), source.choice(dials)) for _ in range(many))


def replies(begun, asks, number):
    """What a SETTING up to the number answers, up to each ASK's dial, 0 being the number."""
    return tuple((begun[other] - begun[one]) % (dial or number) for one, other, dial in asks)


class Examples(Case):
    def test_answers(self):
        told = (
            answers(HOST, ("a", "b", 6)), how_many_answers(HOST, ("a", "b", 6)), how_many_answers(HOST, ("b", "a", 2)),
            tells_new(HOST, ("a", "b", 2)), how_many_answers(HOST, ("", "c", 5)), how_many_answers(HOST, ("a", "b", 0)),
        )
        self.assertEqual(told, ((1, 2), 3, 1, False, 5, None))
        own = left_by(HOST, ("a", "b", 6), 9, "q")
        self.assertEqual(own[1], (("p", "a", "b", 1, 2), ("q", "a", "b", 9, 6)))
        self.assertEqual(answers(own, ("b", "a", 4)), (1, 2))

    def test_rows(self):
        told = (
            rows_of_answers(FREE, ASKS), rows_of_answers(HOST, ASKS), comes_to(FREE, ASKS, GOAL),
            comes_to(FREE, ASKS[:2], GOAL), comes_to(HOST, ASKS[1:], GOAL),
        )
        self.assertEqual(told, (24, 12, True, False, True))

    def test_unlike(self):
        pair = ((("a", 0), ("b", 0), ("c", 0)), (("a", 0), ("b", 0), ("c", 4)))
        told = (
            is_unlike_after(FREE, ASKS[:2], GOAL, pair), is_unlike_after(FREE, ASKS, GOAL, pair),
            unlike_after(FREE, ASKS, GOAL),
        )
        self.assertEqual(told, (True, False, None))

    def test_fewest(self):
        told = (
            fewest_asks(FREE, ASKS, GOAL), fewest_asks(HOST, ASKS, GOAL), best_ask(FREE, ASKS, GOAL),
            fewest_asks(FREE, ASKS[:2], GOAL), needless_asks(FREE, ROUND), needless_asks(FREE, ASKS),
        )
        self.assertEqual(told, ((0, 1, 2), (1, 2), 2, None, (0, 1, 2), ()))
        self.raises(Unfit, {}, left_by, HOST, ("a", "b", 6), 2, "q")


class Errors(Case):
    WITH_ASK = ((answers,), (how_many_answers,), (tells_new,), (left_by, 0, "p"))
    WITH_GOAL = ((comes_to,), (unlike_after,), (is_unlike_after, None), (fewest_asks,), (best_ask,))
    WITH_ASKS = ((rows_of_answers,), (needless_asks,))

    def test_no_wheel_first(self):
        for mill in (HOST, WRONG):
            for ends, name in ((("y", "z"), "y"), (("", "z"), "z"), (("a", "p"), "p")):
                for function, *more in self.WITH_ASK:
                    self.raises(NoWheel, {"name": name}, function, mill, (*ends, 2), *more)
                asks = (("a", "b", 2), (*ends, 0), ("x", "w", 0))
                for function, *more in self.WITH_GOAL:
                    self.raises(NoWheel, {"name": name}, function, mill, asks, ("v", "u", 2), *more)
                    self.raises(NoWheel, {"name": name}, function, mill, asks[:1], (*ends, 2), *more)
                    self.raises(NoWheel, {"name": name}, function, mill, (), (*ends, 2), *more)
                for function, *more in self.WITH_ASKS:
                    self.raises(NoWheel, {"name": name}, function, mill, asks, *more)

    def test_no_setting(self):
        for mill in (WRONG, SQUARE):
            for ask in (("a", "b", 1), ("", "c", 0)):
                for function, *more in self.WITH_ASK:
                    self.raises(NoSetting, {}, function, mill, ask, *more)
                for asks in ((), (ask,)):
                    for function, *more in self.WITH_GOAL:
                        self.raises(NoSetting, {}, function, mill, asks, ask, *more)
                    for function, *more in self.WITH_ASKS:
                        self.raises(NoSetting, {}, function, mill, asks, *more)

    def test_twice_ahead_of_unfit(self):
        self.raises(Twice, {"name": "p"}, left_by, HOST, ("a", "b", 6), 2, "p")
        self.raises(Twice, {"name": "p"}, left_by, HOST, ("a", "b", 6), 1, "p")
        self.raises(Unfit, {}, left_by, HOST, ("a", "b", 2), 2, "a")
        self.assertEqual(left_by(HOST, ("a", "b", 2), 3, "a")[1][0], ("a", "a", "b", 3, 2))


class Edges(Case):
    def test_no_asks(self):
        for mill in (EMPTY, BARE, HOST, EDGES):
            self.assertEqual((rows_of_answers(mill, ()), needless_asks(mill, ())), (1, ()))
        self.assertEqual((comes_to(HOST, (), ("b", "a", 2)), fewest_asks(HOST, (), ("b", "a", 2))), (True, ()))
        self.assertEqual((comes_to(HOST, (), GOAL), fewest_asks(HOST, (), GOAL), best_ask(HOST, (), GOAL)),
                         (False, None, None))
        self.assertIs(is_unlike_after(HOST, (), GOAL, unlike_after(HOST, (), GOAL)), True)

    def test_dial_0_and_dial_1(self):
        held = (BARE[0], (("p", "", "a", -4, 0), ("q", "a", "b", 1, 6)))
        self.assertEqual([answers(held, ("", "a", dial)) for dial in (0, 1, 3, GREAT)],
                         [(-4, 0), (0, 1), (2, 3), (GREAT - 4, GREAT)])
        self.assertEqual([how_many_answers(held, ("", "a", dial)) for dial in (0, 1, 3, GREAT)], [1] * 4)
        self.assertEqual([answers(held, ("b", "a", dial)) for dial in (0, 1, 3, 4, 12)], [(5, 6), (0, 1), (2, 3), (1, 2), (5, 6)])
        self.assertEqual([how_many_answers(held, ("b", "a", dial)) for dial in (0, 1, 3, 4, 12)], [None, 1, 1, 2, 2])
        self.assertEqual([tells_new(held, ("b", "a", dial)) for dial in (0, 1, 3, 4, 12)], [True, False, False, True, True])
        self.raises(Unfit, {}, left_by, held, ("", "a", 0), -3, "z")
        self.assertEqual(left_by(held, ("", "a", 0), -4, "z")[1][-1], ("z", "", "a", -4, 0))
        self.assertEqual(left_by(held, ("", "a", 3), GREAT - 2, "o")[1][0], ("o", "", "a", GREAT - 2, 3))
        self.raises(Unfit, {}, left_by, held, ("", "a", 3), GREAT, "z")
        self.assertEqual(rows_of_answers(held, (("", "a", 0), ("b", "a", 12), ("", "b", 4))), 2)
        self.assertIsNone(rows_of_answers(held, (("b", "a", 12), ("", "c", 0), ("a", "b", 4))))

    def test_goals_to_the_tick(self):
        asks = (("a", "b", 0), ("b", "c", 4), ("b", "c", 0), ("", "a", 6))
        self.assertEqual((comes_to(FREE, asks, ("c", "a", 0)), fewest_asks(FREE, asks, ("c", "a", 0))), (True, (0, 2)))
        self.assertEqual((comes_to(FREE, asks[:2], ("c", "a", 0)), fewest_asks(FREE, asks[:2], ("c", "a", 0))), (False, None))
        self.assertIsNone(best_ask(FREE, asks, ("c", "a", 0)))
        self.assertEqual(best_ask(FREE, asks, ("c", "b", 0)), 2)
        self.assertEqual(best_ask(FREE, asks, ("c", "b", 8)), 2)
        self.assertEqual(best_ask(FREE, asks[:2], ("c", "b", 8)), 1)
        self.assertEqual(best_ask(FREE, asks[3:], ("", "a", 12)), 0)

    def test_alike_asks(self):
        asks = (("a", "b", 6), ("a", "b", 6), ("b", "a", 2), ("a", "b", 6))
        self.assertEqual((rows_of_answers(FREE, asks), needless_asks(FREE, asks)), (6, (0, 1, 2, 3)))
        self.assertEqual((fewest_asks(FREE, asks, ("b", "a", 3)), best_ask(FREE, asks, ("b", "a", 3))), ((0,), 0))
        self.assertEqual(best_ask(FREE, asks[2:], ("b", "a", 2)), 0)
        self.assertIsNone(best_ask(HOST, asks, ("b", "a", 2)))

    def test_both_ends_held_by_the_crank(self):
        mill = (BARE[0], (("p", "", "a", 1, 4), ("q", "", "b", 2, 6)))
        for asks in ((), (("a", "b", 3),), (("a", "c", 2), ("c", "b", 4))):
            for goal in (("a", "b", 0), ("b", "a", 12), ("b", "a", 5), ("", "b", 9), ("a", "", 0)):
                pair = unlike_after(mill, asks, goal)
                self.assertIs(is_unlike_after(mill, asks, goal, pair), not comes_to(mill, asks, goal))

    def test_numbers_are_great(self):
        wheels = tuple((name, GREAT, 4) for name in "abcdefgh")
        row = tuple(("k" + other, one, other, -GREAT, 2) for one, other in zip("abcdefg", "bcdefgh"))
        mill = (wheels, row)
        asks = tuple((one, other, GREAT) for one, other in zip("habcdefg", "abcdefgh"))
        self.assertEqual(rows_of_answers(mill, asks), (GREAT // 2) ** 7)
        self.assertEqual(needless_asks(mill, asks), tuple(range(8)))
        self.assertEqual(fewest_asks(mill, asks[:6], ("b", "h", GREAT)), (0, 1))
        self.assertEqual(best_ask(mill, asks, ("b", "h", GREAT)), None)
        self.assertEqual(best_ask(mill, asks, ("b", "c", 2 * GREAT)), 2)
        goal = ("a", "h", 4 * GREAT)
        self.assertIs(is_unlike_after(mill, asks, goal, unlike_after(mill, asks, goal)), True)
        self.assertEqual(answers(mill, ("a", "h", GREAT)), (0, 2))
        self.assertEqual(answers(left_by(mill, ("a", "h", GREAT), 8 - 3 * GREAT, "z"), ("h", "a", 0)), (GREAT - 8, GREAT))


class GoneThrough(Case):
    DIALS = (1, 2, 3, 4, 6)

    def mills(self, seed, many):
        source = random.Random(seed)
        for wheels, sayings, dials in ((3, 2, (2, 3, 4)), (3, 3, (0, 2, 4)), (2, 1, (1, 3)), (2, 2, (0, 6)), (3, 0, (1,))):
            for mill, _ in kept_mills(source, many, wheels, sayings, dials):
                asks = some_asks(source, mill, source.randrange(5), self.DIALS)
                goal = some_asks(source, mill, 1, self.DIALS)[0]
                number = turn_of(mill, goal[2], *[ask[2] for ask in asks]) // 2
                yield mill, asks, goal, number, begins_up_to(mill, number)

    def goals_left(self, every, asks, goal, number):
        """By each row of answers what the goal can be."""
        found = {}
        for begun in every:
            found.setdefault(replies(begun, asks, number), set()).add(replies(begun, [goal], number))
        return found

    def test_answers(self):
        for mill, asks, goal, number, every in self.mills(101, 12):
            for ask in (*asks, goal):
                right = {row[0] for row in (replies(begun, [ask], number) for begun in every)}
                late, dial = answers(mill, ask)
                self.assertEqual({(late + at * dial) % ask[2] for at in range(ask[2])}, right)
                self.assertTrue(ask[2] % dial == 0 and late in range(dial))
                self.assertEqual((how_many_answers(mill, ask), tells_new(mill, ask)), (len(right), len(right) > 1))
                for far in range(-2, ask[2] + 1):
                    if far % ask[2] in right:
                        own = left_by(mill, ask, far, "z")
                        self.assertIs(is_mill(own) and can_be_kept(own), True)
                        self.assertEqual(own[1], mill[1] + (("z", ask[0], ask[1], far, ask[2]),))
                    else:
                        self.raises(Unfit, {}, left_by, mill, ask, far, "z")

    def test_rows_and_goals(self):
        told = set()
        for mill, asks, goal, number, every in self.mills(102, 25):
            left = self.goals_left(every, asks, goal, number)
            self.assertEqual(rows_of_answers(mill, asks), len(left))
            # Whatever was answered, the goal has as many answers left.
            sizes = {len(goals) for goals in left.values()}
            self.assertEqual(len(sizes), 1)
            comes = sizes == {1}
            self.assertIs(comes_to(mill, asks, goal), comes)
            pair = unlike_after(mill, asks, goal)
            self.assertIs(pair is None, comes)
            self.assertIs(is_unlike_after(mill, asks, goal, pair), not comes)
            right = [part for part in parts_of(range(len(asks))) if all(
                len(goals) == 1 for goals in self.goals_left(every, [asks[at] for at in part], goal, number).values()
            )]
            self.assertEqual(fewest_asks(mill, asks, goal), min(right, key=lambda part: (len(part), part), default=None))
            self.check_best(mill, asks, goal, number, every)
            told.add((comes, len(min(right, key=len, default=()))))
        self.assertTrue({(True, 0), (True, 1), (True, 2), (False, 0)} <= told)

    def check_best(self, mill, asks, goal, number, every):
        now = len({replies(begun, [goal], number) for begun in every})
        many = [len(list(self.goals_left(every, [ask], goal, number).values())[0]) for ask in asks]
        best = many.index(min(many)) if many and min(many) < now else None
        self.assertEqual(best_ask(mill, asks, goal), best)

    def test_needless(self):
        for mill, asks, _, number, every in self.mills(103, 20):
            right = []
            for place, ask in enumerate(asks):
                others = asks[:place] + asks[place + 1:]
                if all(len(goals) == 1 for goals in self.goals_left(every, others, ask, number).values()):
                    right.append(place)
            self.assertEqual(needless_asks(mill, asks), tuple(right))

    def test_pairs(self):
        for mill, asks, goal, number, every in self.mills(104, 4):
            if any(saying[4] == 0 for saying in mill[1]):
                continue
            for first, last in itertools.product(every[:12], every[-12:]):
                right = replies(first, asks, number) == replies(last, asks, number)
                right = right and replies(first, [goal], number) != replies(last, [goal], number)
                self.assertIs(is_unlike_after(mill, asks, goal, (as_begins(first), as_begins(last))), right)


class Things(Case):
    def test_asks(self):
        for mill in (HOST, EDGES, EMPTY, WRONG):
            ends = ends_of(mill)
            for ask in ((ends[0], ends[-1], 0), (ends[-1], ends[0], GREAT), ("", "a", 3), ("", "", 3)):
                for thing in changed(ask):
                    right = (
                        type(thing) is tuple and [type(part) for part in thing] == [str, str, int] and thing[2] >= 0
                        and thing[0] != thing[1] and thing[0] in ends and thing[1] in ends
                    )
                    self.assertIs(is_ask(mill, thing), right, repr(thing)[:200])
            for thing in ODD:
                self.assertIs(is_ask(mill, thing), False, repr(thing)[:200])

    def test_pairs(self):
        for thing in (*changed(unlike_after(FREE, ASKS[:2], GOAL)), *ODD):
            right = type(thing) is tuple and len(thing) == 2 and all(is_setting(FREE, setting) for setting in thing)
            if right:
                first, last = [{"": 0, **dict(setting)} for setting in thing]
                right = replies(first, ASKS[:2], 1) == replies(last, ASKS[:2], 1)
                right = right and replies(first, [GOAL], 1) != replies(last, [GOAL], 1)
            self.assertIs(is_unlike_after(FREE, ASKS[:2], GOAL, thing), right, repr(thing)[:200])


if __name__ == "__main__":
    unittest.main()
