"""What holds of a parameter called `thing`: any value is answered, True for just those described."""

import unittest

from tests.brute import every_ring, is_bad, ought_begins, ought_mill, ought_setting
from tests.calls import CALLS, SHEETS
from tests.case import Case
from tests.samples import (
    BEGINS, EDGES, EMPTY, FURTHER, MILL, MILLS, ODD, SQUARE, TWO, WRONG, changed, has_list, listed, nested,
)
from wheelmarks import asks, bridges, covers, hands, judge, lean, meets, rules, seen, sheets, sures, wrong
from wheelmarks.errors import NoReader, NoSaying, NoSetting, NoWheel, NoWord, Twice, Unfit
from wheelmarks.mills import is_begins, is_mill, is_setting
from wheelmarks.rings import is_bad_ring, is_ring

DEEP = (nested(12), [nested(11)], (nested(11), nested(11)), "x" * 1000, ((),) * 1000, (1,) * 1000)
LOOK = ((0, "z", True),)
# Each with all arguments but thing, and the error that these alone bring.
STATED = (
    (sures.is_way, (WRONG, "a", "z"), NoWheel, {"name": "z"}),
    (sures.is_sure_ways, (WRONG, "z", "a"), NoWheel, {"name": "z"}),
    (sures.is_sure_ways, (WRONG, "a", "a"), NoSetting, {}),
    (sures.is_unlike, (MILL, "y", "z", 3), NoWheel, {"name": "y"}),
    (sures.is_unlike, (WRONG, "a", "", 3), NoSetting, {}),
    (covers.is_uncovered, (WRONG, (("k", "a", "z", 0, 2, 0),)), NoWheel, {"name": "z"}),
    (meets.is_choice, (WRONG, ("a", "z")), NoWheel, {"name": "z"}),
    (meets.is_choice, (WRONG, ()), NoSetting, {}),
    (meets.is_unmet, (MILL, ("z",)), NoWheel, {"name": "z"}),
    (meets.is_unmet, (WRONG, ("a", "b")), NoSetting, {}),
    (rules.is_broken_at, (WRONG, (), ("z",)), NoWheel, {"name": "z"}),
    (rules.is_broken_at, (WRONG, (), ()), NoSetting, {}),
    (rules.is_bare_stretch, (MILL, ("z",), 2), NoWheel, {"name": "z"}),
    (rules.is_bare_stretch, (WRONG, (), 2), NoSetting, {}),
    (lean.is_loose_setting, (WRONG, "z"), NoSaying, {"name": "z"}),
    (lean.is_loose_setting, (WRONG, "p"), NoSetting, {}),
    (lean.is_lean_set, (WRONG,), NoSetting, {}),
    (lean.is_unlike_by, (WRONG, EMPTY), Unfit, {}),
    (seen.is_fitting, (MILL, LOOK), NoWheel, {"name": "z"}),
    (seen.is_clash, (WRONG, LOOK), NoWheel, {"name": "z"}),
    (seen.is_clash, (WRONG, ()), NoSetting, {}),
    (asks.is_unlike_after, (WRONG, (("a", "z", 2),), ("a", "y", 2)), NoWheel, {"name": "z"}),
    (asks.is_unlike_after, (WRONG, (), ("a", "b", 2)), NoSetting, {}),
    (wrong.is_twin_paper, (WRONG, "y", "z"), NoSaying, {"name": "y"}),
    (wrong.is_twin_paper, (WRONG, "p", "p"), NoSetting, {}),
    (bridges.is_clash_ring, (MILL, WRONG), NoSetting, {}),
    (bridges.is_clash_ring, (MILL, ((("c", 5, 1),), ())), Twice, {"name": "c"}),
    (hands.is_crowd_paper, (WRONG, ("a", "z")), NoWheel, {"name": "z"}),
    (hands.is_crowd_paper, (WRONG, ()), NoSetting, {}),
    (hands.is_sharing, (WRONG,), NoSetting, {}),
    (sheets.is_paper_for, (WRONG, SHEETS, ("eve",), "z", "a", 2), NoWheel, {"name": "z"}),
    (sheets.is_paper_for, (WRONG, SHEETS, ("eve",), "c", "a", 2), NoReader, {"name": "eve"}),
    (sheets.is_paper_for, (WRONG, SHEETS, (), "a", "a", 2), NoSetting, {}),
    (judge.is_paper, (("Kept", MILL),), NoWord, {"word": "Kept"}),
    (judge.is_paper, (("rule", WRONG, (), ("z",)),), NoWheel, {"name": "z"}),
    (judge.is_paper, (("hands", WRONG, 1),), NoSetting, {}),
    (judge.is_paper, (("seen", MILL, ((0, "a", False), (0, "a", True)), "a", 0),), Unfit, {}),
)


class AllFunctions(Case):
    def test_any_thing_is_answered(self):
        judged = [(function, named) for function, named in CALLS if "thing" in named]
        self.assertEqual(len(judged), 31)
        for function, named in judged:
            for thing in (*ODD, *DEEP, *changed(named["thing"])):
                told = function(**{**named, "thing": thing})
                self.assertIn(told, (True, False))
                self.assertIs(type(told), bool, function.__name__)
                if has_list(thing):
                    self.assertIs(told, False, function.__name__)

    def test_no_thing_hides_an_error(self):
        for function, given, kind, told in STATED:
            for thing in (*ODD, *DEEP):
                self.raises(kind, told, function, *given, thing)


class Things(unittest.TestCase):
    def check(self, function, ought, things):
        told = {True: 0, False: 0}
        for thing in things:
            # The representation, as True equals 1 and can not be told from it by ==.
            right = ought(thing)
            self.assertIs(function(thing), right, repr(thing)[:200])
            told[right] += 1
        return told

    def test_is_mill(self):
        for mill in (WRONG, EMPTY, TWO, EDGES):
            told = self.check(is_mill, ought_mill, changed(mill))
            self.assertTrue(told[True] and told[False])

    def test_is_begins_and_is_setting(self):
        for mill, begins in ((MILL, BEGINS), (MILL, FURTHER), (EMPTY, ()), (TWO, (("a", 3),))):
            things = list(changed(begins))
            self.check(lambda thing: is_begins(mill, thing), lambda thing: ought_begins(mill, thing), things)
            self.check(lambda thing: is_setting(mill, thing), lambda thing: ought_setting(mill, thing), things)
            self.check(lambda thing: is_begins(listed(mill), thing), lambda thing: ought_begins(mill, thing), things)

    def test_is_ring_and_is_bad_ring(self):
        for mill in (WRONG, TWO, SQUARE):
            rings = every_ring(mill)
            right = {repr(ring) for ring in rings}
            bad = {repr(ring) for ring in rings if is_bad(mill, ring)}
            for ring in rings:
                things = list(changed(ring))
                self.check(lambda thing: is_ring(mill, thing), lambda thing: repr(thing) in right, things)
                self.check(lambda thing: is_bad_ring(mill, thing), lambda thing: repr(thing) in bad, things)

    def test_odd_things(self):
        for thing in (*ODD, nested(12), [nested(11)], (nested(11), nested(11)), "x" * 1000, ((),) * 1000):
            for mill in MILLS:
                for function in (is_begins, is_setting, is_ring, is_bad_ring):
                    right = thing == () and mill == EMPTY and function in (is_begins, is_setting)
                    self.assertIs(function(mill, thing), right, repr(thing)[:80])
            self.assertIs(is_mill(thing), thing == EMPTY, repr(thing)[:80])

    def test_lists_are_no_tuples(self):
        self.assertIs(is_mill(listed(MILL)), False)
        self.assertIs(is_mill([*MILL]), False)
        self.assertIs(is_setting(MILL, listed(BEGINS)), False)
        self.assertIs(is_begins(MILL, [*BEGINS]), False)


if __name__ == "__main__":
    unittest.main()
