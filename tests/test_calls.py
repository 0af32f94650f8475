"""Lists for tuples, arguments by name, and that nothing handed in or told is shared."""

import ast
import copy
import inspect
import pathlib
import unittest

from tests.samples import BEGINS, EDGES, EMPTY, FURTHER, GREAT, MILL, SQUARE, TWO, WRONG, has_list, listed, mixed
from wheelmarks import asks, covers, lean, meets, mills, rings, rules, seen, settings, sures
from wheelmarks.errors import NoNumber, NoSaying, NoSetting, NoWheel, Twice, Unfit

PQR = (("p", 1), ("q", 1), ("r", -1))
FREE = (MILL[0], MILL[1][:1])
LATER = (("a", 2), ("b", 5), ("c", 19))
MORE = (("d", "b", "c", 0, 2, 0), ("e", "b", "c", 1, 4, 0), ("f", "", "c", -1, 3, 1))
TURNS = ((("a", 2, 1), ("b", 4, 1), ("c", 4, 1)), (("p", "a", "b", 1, 2), ("q", "b", "c", 2, 4)))
HERE = (("a", 0), ("b", 1), ("c", 3))
LEAN = (MILL[0], MILL[1] + (("s", "b", "c", 0, 2), ("t", "c", "a", 1, 3)))
LOOKS = ((0, "a", True), (1, "b", False), (6, "a", True))
CLASHING = LOOKS + ((7, "b", False),)
ASKS = (("a", "b", 12), ("b", "c", 4), ("c", "", 5), ("", "a", 10))
PAIR = (HERE, (("a", 0), ("b", 1), ("c", 7)))
CALLS = (
    (mills.is_mill, {"thing": MILL}),
    (mills.is_begins, {"mill": MILL, "thing": FURTHER}),
    (mills.is_setting, {"mill": MILL, "thing": BEGINS}),
    (mills.off_by, {"mill": MILL, "begins": FURTHER, "name": "q"}),
    (mills.unkept, {"mill": MILL, "begins": FURTHER}),
    (mills.shows_at, {"wheel": ("b", 8, 2), "begin": 3, "tick": -4}),
    (mills.next_show, {"wheel": ("b", 8, 2), "begin": 3, "tick": 5}),
    (mills.last_show, {"wheel": ("b", 8, 2), "begin": 3, "tick": 10}),
    (mills.showing, {"mill": MILL, "begins": BEGINS, "tick": 11}),
    (mills.with_wheel, {"mill": MILL, "wheel": ("bb", 3, 2)}),
    (mills.without_wheel, {"mill": (MILL[0], MILL[1][:1]), "name": "c"}),
    (mills.with_saying, {"mill": MILL, "saying": ("pp", "", "c", 3, GREAT)}),
    (mills.without_saying, {"mill": MILL, "name": "q"}),
    (mills.turned_saying, {"mill": MILL, "name": "q"}),
    (mills.tidied, {"mill": EDGES}),
    (mills.shifted, {"mill": MILL, "name": "b", "ticks": 2}),
    (mills.renamed, {"mill": MILL, "pairs": (("a", "c"), ("c", "a"))}),
    (rings.is_ring, {"mill": MILL, "thing": PQR}),
    (rings.all_rings, {"mill": WRONG}),
    (rings.rings_of, {"mill": WRONG, "saying": "t"}),
    (rings.ring_sum, {"mill": WRONG, "ring": PQR}),
    (rings.ring_divisor, {"mill": WRONG, "ring": PQR}),
    (rings.can_be_kept, {"mill": MILL}),
    (rings.bad_ring, {"mill": SQUARE}),
    (rings.is_bad_ring, {"mill": WRONG, "thing": PQR}),
    (rings.least_bad, {"mill": TWO}),
    (rings.kept_lots, {"mill": WRONG}),
    (sures.sure_late, {"mill": MILL, "one": "a", "other": "c"}),
    (sures.sure_lates, {"mill": MILL}),
    (sures.is_sure, {"mill": MILL, "one": "a", "other": "c", "late": 17, "dial": 4}),
    (sures.all_ways, {"mill": MILL, "one": "c", "other": "a"}),
    (sures.is_way, {"mill": MILL, "one": "c", "other": "a", "thing": (("q", -1), ("p", -1))}),
    (sures.sure_ways, {"mill": MILL, "one": "a", "other": "c"}),
    (sures.is_sure_ways, {"mill": MILL, "one": "a", "other": "c", "thing": ((("p", 1), ("q", 1)), (("r", 1),))}),
    (sures.fewest_ways, {"mill": MILL, "one": "a", "other": "c"}),
    (sures.unlike_settings, {"mill": MILL, "one": "a", "other": "c", "dial": 24}),
    (sures.is_unlike, {"mill": MILL, "one": "a", "other": "c", "dial": 24, "thing": (BEGINS, LATER)}),
    (sures.hang_together, {"mill": MILL}),
    (sures.told_lots, {"mill": MILL}),
    (settings.least_setting, {"mill": MILL}),
    (settings.setting_with, {"mill": MILL, "begins": (("b", -9), ("c", 17))}),
    (settings.hinders, {"mill": MILL, "begins": (("b", -9), ("c", 1))}),
    (settings.is_move, {"mill": MILL, "thing": (("a", 1), ("b", 13), ("c", 1))}),
    (settings.dials_ahead, {"mill": MILL}),
    (settings.moves, {"mill": MILL}),
    (settings.stepped, {"setting": BEGINS, "some": (LATER, FURTHER), "numbers": (2, -1)}),
    (settings.steps_to, {"mill": MILL, "setting": BEGINS, "goal": (("a", 2), ("b", -7), ("c", -5))}),
    (settings.common_dial, {"mill": MILL}),
    (settings.how_many, {"mill": MILL, "number": 24}),
    (settings.nth_up_to, {"mill": MILL, "number": 24, "place": 7}),
    (covers.is_more, {"mill": MILL, "thing": MORE}),
    (covers.is_covered, {"mill": MILL, "more": MORE}),
    (covers.uncovered, {"mill": FREE, "more": MORE[:2]}),
    (covers.is_uncovered, {"mill": FREE, "more": MORE[:2], "thing": (("a", 0), ("b", 3), ("c", 6))}),
    (covers.few_settings, {"mill": FREE, "setting": BEGINS, "moves": (LATER, FURTHER), "more": MORE[:1]}),
    (covers.needless, {"mill": MILL, "more": (("d", "b", "c", 0, 2, 0), ("e", "b", "c", 2, 6, 0))}),
    (covers.all_covers, {"mill": MILL, "more": MORE}),
    (covers.fewest_cover, {"mill": MILL, "more": MORE}),
    (covers.kept_share, {"mill": FREE, "more": MORE[1:]}),
    (covers.bare_share, {"mill": FREE, "more": MORE}),
    (meets.can_meet, {"mill": MILL, "some": ("b", "c")}),
    (meets.a_choice, {"mill": MILL, "some": ("b", "c")}),
    (meets.is_choice, {"mill": MILL, "some": ("b", "c"), "thing": (("b", 0), ("c", 0))}),
    (meets.apart_pair, {"mill": MILL, "choice": (("a", 0), ("b", 1), ("c", 0))}),
    (meets.meet_mill, {"mill": MILL, "choice": (("b", 1), ("c", 0)), "name": "at", "names": ("o", "s")}),
    (meets.surely_meet, {"mill": MILL, "some": ("b", "c")}),
    (meets.unmet, {"mill": FREE, "some": ("a", "c")}),
    (meets.is_unmet, {"mill": FREE, "some": ("a", "c"), "thing": (("a", 0), ("b", 3), ("c", 1))}),
    (meets.greatest_lots, {"mill": MILL}),
    (meets.series, {"mill": MILL, "setting": BEGINS, "some": ("b", "c")}),
    (meets.first_from, {"mill": MILL, "setting": BEGINS, "some": ("b", "c"), "tick": 12}),
    (meets.meets_in, {"mill": MILL, "setting": BEGINS, "some": ("b", "c"), "first": -13, "last": 35}),
    (rules.holds, {"mill": TURNS, "ones": (), "others": ("a", "b", "c")}),
    (rules.broken_at, {"mill": TURNS, "ones": ("a",), "others": ("b",)}),
    (rules.is_broken_at, {"mill": TURNS, "ones": ("a",), "others": ("b",), "thing": (HERE, -6)}),
    (rules.bare_stretch, {"mill": TURNS, "others": ("b",), "many": 3}),
    (rules.is_bare_stretch, {"mill": TURNS, "others": ("b",), "many": 3, "thing": (HERE, 2)}),
    (rules.silence, {"mill": TURNS, "others": ("b", "c"), "most": 3}),
    (rules.needless_ones, {"mill": TURNS, "ones": ("a", "b"), "others": ("b", "c")}),
    (rules.needless_others, {"mill": TURNS, "ones": ("a", "b"), "others": ("b", "c")}),
    (rules.cores, {"mill": TURNS, "ones": ("c",), "others": ("b", "c")}),
    (rules.least_long, {"mill": TURNS, "ones": (), "others": ("a", "b"), "name": "b", "most": 4}),
    (lean.needless_sayings, {"mill": LEAN}),
    (lean.is_lean, {"mill": MILL}),
    (lean.loose_setting, {"mill": LEAN, "name": "p"}),
    (lean.is_loose_setting, {"mill": MILL, "name": "p", "thing": (("a", 0), ("b", 5), ("c", 11))}),
    (lean.all_lean, {"mill": LEAN}),
    (lean.fewest_sayings, {"mill": LEAN}),
    (lean.is_lean_set, {"mill": LEAN, "thing": ("p", "q", "r")}),
    (lean.smaller_dial, {"mill": MILL, "name": "r"}),
    (lean.least_dials, {"mill": LEAN}),
    (lean.same_mills, {"one": LEAN, "other": MILL}),
    (lean.unlike_by, {"one": FREE, "other": MILL}),
    (lean.is_unlike_by, {"one": FREE, "other": MILL, "thing": (("a", 0), ("b", 3), ("c", 2))}),
    (seen.is_looks, {"mill": TURNS, "thing": LOOKS}),
    (seen.fits, {"mill": TURNS, "setting": HERE, "looks": ((0, "a", True), (2, "b", False))}),
    (seen.with_seen, {"mill": MILL, "looks": ((0, "b", True), (5, "c", True), (6, "a", False))}),
    (seen.with_unseen, {"mill": MILL, "looks": ((0, "b", True), (5, "c", False), (6, "b", False))}),
    (seen.a_fitting, {"mill": TURNS, "looks": LOOKS}),
    (seen.is_fitting, {"mill": TURNS, "looks": LOOKS, "thing": (("a", 0), ("b", 3), ("c", 1))}),
    (seen.clash, {"mill": TURNS, "looks": CLASHING}),
    (seen.is_clash, {"mill": TURNS, "looks": CLASHING, "thing": (0, 1, 3)}),
    (seen.sure_at, {"mill": TURNS, "looks": LOOKS, "wheel": "b", "tick": 7}),
    (seen.surely_at, {"mill": TURNS, "looks": LOOKS, "tick": 7}),
    (seen.maybe_at, {"mill": TURNS, "looks": LOOKS[:1], "tick": 7}),
    (seen.who_showed, {"mill": TURNS, "looks": LOOKS[:1], "some": ("b", "c"), "tick": 7}),
    (seen.first_sure, {"mill": TURNS, "looks": LOOKS, "wheel": "b", "tick": 4}),
    (seen.told_begins, {"mill": TURNS, "looks": LOOKS}),
    (asks.is_ask, {"mill": TURNS, "thing": ("a", "", 3)}),
    (asks.answers, {"mill": TURNS, "ask": ("a", "b", 6)}),
    (asks.how_many_answers, {"mill": TURNS, "ask": ("a", "b", 6)}),
    (asks.tells_new, {"mill": TURNS, "ask": ("a", "b", 6)}),
    (asks.left_by, {"mill": TURNS, "ask": ("a", "b", 6), "late": 9, "name": "pp"}),
    (asks.rows_of_answers, {"mill": TURNS, "asks": ASKS}),
    (asks.comes_to, {"mill": TURNS, "asks": ASKS, "goal": ("a", "c", 4)}),
    (asks.unlike_after, {"mill": TURNS, "asks": ASKS[:2], "goal": ("a", "c", 3)}),
    (asks.is_unlike_after, {"mill": TURNS, "asks": ASKS[:1], "goal": ("a", "c", 8), "thing": PAIR}),
    (asks.fewest_asks, {"mill": TURNS, "asks": ASKS, "goal": ("a", "c", 4)}),
    (asks.best_ask, {"mill": TURNS, "asks": ASKS[::-1], "goal": ("a", "c", 4)}),
    (asks.needless_asks, {"mill": TURNS, "asks": ASKS}),
)
REFUSED = (
    (mills.off_by, (MILL, BEGINS, "a"), NoSaying, "a"),
    (mills.with_wheel, (MILL, ("a", 3, 1)), Twice, "a"),
    (mills.without_wheel, (MILL, "d"), NoWheel, "d"),
    (mills.without_wheel, (MILL, "a"), Unfit, None),
    (mills.with_saying, (MILL, ("p", "a", "d", 0, 1)), NoWheel, "d"),
    (mills.with_saying, (MILL, ("p", "a", "b", 0, 1)), Twice, "p"),
    (mills.with_saying, (MILL, ("s", "b", "b", 0, 1)), Unfit, None),
    (mills.without_saying, (MILL, "a"), NoSaying, "a"),
    (mills.turned_saying, (MILL, "a"), NoSaying, "a"),
    (mills.shifted, (MILL, "", 1), NoWheel, ""),
    (mills.renamed, (MILL, (("d", "a"),)), NoWheel, "d"),
    (mills.renamed, (MILL, (("a", "b"),)), Twice, "b"),
    (rings.rings_of, (MILL, "a"), NoSaying, "a"),
    (rings.ring_sum, (MILL, (("s", 1),)), NoSaying, "s"),
    (rings.ring_divisor, (MILL, (("s", 1),)), NoSaying, "s"),
    (sures.sure_late, (MILL, "a", "d"), NoWheel, "d"),
    (sures.sure_lates, (WRONG,), NoSetting, None),
    (settings.setting_with, (MILL, (("a", 0), ("d", 0))), NoWheel, "d"),
    (settings.setting_with, (MILL, (("a", 0), ("b", 0))), Unfit, None),
    (settings.nth_up_to, (MILL, 24, GREAT), NoNumber, None),
    (settings.how_many, (MILL, 25), Unfit, None),
    (covers.bare_share, (MILL, (("d", "b", "d", 0, 2, 0),)), NoWheel, "d"),
    (covers.kept_share, (WRONG, MORE), NoSetting, None),
    (meets.series, (MILL, BEGINS, ("a", "d")), NoWheel, "d"),
    (meets.apart_pair, (MILL, (("d", 0),)), NoWheel, "d"),
    (meets.meet_mill, (MILL, (("a", 0),), "b", ("p",)), Twice, "b"),
    (meets.meet_mill, (MILL, (("a", 0),), "d", ("p",)), Twice, "p"),
    (meets.unmet, (WRONG, ("a", "b")), NoSetting, None),
    (rules.cores, (TURNS, ("a", "y"), ("z",)), NoWheel, "y"),
    (rules.least_long, (TURNS, (), ("a",), "b", 1), Unfit, None),
    (lean.smaller_dial, (MILL, "s"), NoSaying, "s"),
    (lean.all_lean, (WRONG,), NoSetting, None),
    (lean.same_mills, (MILL, SQUARE), Unfit, None),
    (seen.sure_at, (TURNS, ((0, "z", True),), "y", 0), NoWheel, "z"),
    (seen.told_begins, (TURNS, CLASHING), Unfit, None),
    (asks.left_by, (TURNS, ("a", "b", 2), 2, "r"), Unfit, None),
    (asks.left_by, (TURNS, ("a", "b", 2), 2, "q"), Twice, "q"),
    (asks.best_ask, (WRONG, ASKS, ("a", "d", 2)), NoWheel, "d"),
)


def in_lists(named, change):
    """The arguments changed, but for thing, in which a list is no tuple."""
    return {name: value if name == "thing" else change(value) for name, value in named.items()}


class Calls(unittest.TestCase):
    def test_each_function_is_here(self):
        for module, functions in FUNCTIONS.items():
            for name in functions:
                self.assertTrue(any(function is getattr(module, name) for function, _ in CALLS), name)

    def test_lists_and_names(self):
        for function, named in CALLS:
            told = function(*named.values())
            self.assertEqual(function(**named), told)
            self.assertEqual(repr(function(**named)), repr(told))
            self.assertEqual(repr(function(*in_lists(named, listed).values())), repr(told), function.__name__)
            self.assertEqual(repr(function(**in_lists(named, mixed))), repr(told), function.__name__)

    def test_told_is_something(self):
        """A call that tells None, False or nothing at all would show little in the other tests."""
        for function, named in CALLS:
            self.assertTrue(function(**named), function.__name__)

    def test_told_in_tuples(self):
        for function, named in CALLS:
            told = function(**in_lists(named, listed))
            for part in told if isinstance(told, list) else (told,):
                self.assertFalse(has_list(part), function.__name__)

    def test_arguments_are_as_they_were(self):
        for function, named in CALLS:
            values = in_lists(named, listed)
            before = copy.deepcopy(values)
            function(**values)
            self.assertEqual(values, before, function.__name__)

    def test_told_lists_are_the_callers(self):
        for function, named in CALLS:
            told = function(**named)
            if isinstance(told, list):
                kept = list(told)
                told.append("more")
                told.reverse()
                self.assertEqual(function(**named), kept)

    def test_told_mills_do_not_change_with_the_argument(self):
        for function, named in CALLS:
            values = in_lists(named, listed)
            told = function(**values)
            before = repr(told)
            for value in values.values():
                if isinstance(value, list):
                    value.clear()
            self.assertEqual(repr(told), before)

    def test_told_mills_are_mills(self):
        for function, named in CALLS:
            if function.__name__ in ("with_wheel", "without_wheel", "with_saying", "without_saying", "turned_saying",
                                     "tidied", "shifted", "renamed", "meet_mill", "least_dials", "left_by"):
                self.assertIs(mills.is_mill(function(**named)), True)

    def test_errors_with_lists_too(self):
        for function, values, kind, name in REFUSED:
            for change in (lambda value: value, listed, mixed):
                given = [change(value) for value in values]
                before = copy.deepcopy(given)
                with self.assertRaises(kind) as caught:
                    function(*given)
                self.assertEqual(getattr(caught.exception, "name", None), name)
                self.assertEqual(given, before)

    def test_empty_mill(self):
        told = [function(EMPTY) for function in (mills.tidied, rings.all_rings, rings.can_be_kept, rings.kept_lots)]
        self.assertEqual(told, [EMPTY, [], True, [()]])


FUNCTIONS = {
    mills: {
        "is_mill": "thing", "is_begins": "mill thing", "is_setting": "mill thing", "off_by": "mill begins name",
        "unkept": "mill begins", "shows_at": "wheel begin tick", "next_show": "wheel begin tick",
        "last_show": "wheel begin tick", "showing": "mill begins tick", "with_wheel": "mill wheel",
        "without_wheel": "mill name", "with_saying": "mill saying", "without_saying": "mill name",
        "turned_saying": "mill name", "tidied": "mill", "shifted": "mill name ticks", "renamed": "mill pairs",
    },
    rings: {
        "is_ring": "mill thing", "all_rings": "mill", "rings_of": "mill saying", "ring_sum": "mill ring",
        "ring_divisor": "mill ring", "can_be_kept": "mill", "bad_ring": "mill", "is_bad_ring": "mill thing",
        "least_bad": "mill", "kept_lots": "mill",
    },
    sures: {
        "sure_late": "mill one other", "sure_lates": "mill", "is_sure": "mill one other late dial",
        "all_ways": "mill one other", "is_way": "mill one other thing", "sure_ways": "mill one other",
        "is_sure_ways": "mill one other thing", "fewest_ways": "mill one other",
        "unlike_settings": "mill one other dial", "is_unlike": "mill one other dial thing", "hang_together": "mill",
        "told_lots": "mill",
    },
    settings: {
        "least_setting": "mill", "setting_with": "mill begins", "hinders": "mill begins", "is_move": "mill thing",
        "dials_ahead": "mill", "moves": "mill", "stepped": "setting some numbers", "steps_to": "mill setting goal",
        "common_dial": "mill", "how_many": "mill number", "nth_up_to": "mill number place",
    },
    covers: {
        "is_more": "mill thing", "is_covered": "mill more", "uncovered": "mill more",
        "is_uncovered": "mill more thing", "few_settings": "mill setting moves more", "needless": "mill more",
        "all_covers": "mill more", "fewest_cover": "mill more", "kept_share": "mill more", "bare_share": "mill more",
    },
    meets: {
        "can_meet": "mill some", "a_choice": "mill some", "is_choice": "mill some thing", "apart_pair": "mill choice",
        "meet_mill": "mill choice name names", "surely_meet": "mill some", "unmet": "mill some",
        "is_unmet": "mill some thing", "greatest_lots": "mill", "series": "mill setting some",
        "first_from": "mill setting some tick", "meets_in": "mill setting some first last",
    },
    rules: {
        "holds": "mill ones others", "broken_at": "mill ones others", "is_broken_at": "mill ones others thing",
        "bare_stretch": "mill others many", "is_bare_stretch": "mill others many thing",
        "silence": "mill others most", "needless_ones": "mill ones others", "needless_others": "mill ones others",
        "cores": "mill ones others", "least_long": "mill ones others name most",
    },
    lean: {
        "needless_sayings": "mill", "is_lean": "mill", "loose_setting": "mill name",
        "is_loose_setting": "mill name thing", "all_lean": "mill", "fewest_sayings": "mill",
        "is_lean_set": "mill thing", "smaller_dial": "mill name", "least_dials": "mill", "same_mills": "one other",
        "unlike_by": "one other", "is_unlike_by": "one other thing",
    },
    seen: {
        "is_looks": "mill thing", "fits": "mill setting looks", "with_seen": "mill looks", "with_unseen": "mill looks",
        "a_fitting": "mill looks", "is_fitting": "mill looks thing", "clash": "mill looks",
        "is_clash": "mill looks thing", "sure_at": "mill looks wheel tick", "surely_at": "mill looks tick",
        "maybe_at": "mill looks tick", "who_showed": "mill looks some tick", "first_sure": "mill looks wheel tick",
        "told_begins": "mill looks",
    },
    asks: {
        "is_ask": "mill thing", "answers": "mill ask", "how_many_answers": "mill ask", "tells_new": "mill ask",
        "left_by": "mill ask late name", "rows_of_answers": "mill asks", "comes_to": "mill asks goal",
        "unlike_after": "mill asks goal", "is_unlike_after": "mill asks goal thing",
        "fewest_asks": "mill asks goal", "best_ask": "mill asks goal", "needless_asks": "mill asks",
    },
}
# What each file needs lies in those ahead of it, or in the ones that the document does not list.
ROW = (
    "errors mills rings sures settings covers meets rules lean seen asks wrong bridges hands sheets judge texts board"
    " desk"
).split()


class Interface(unittest.TestCase):
    def needed(self, name):
        """The names of all files of the package that this one needs, through others, too."""
        path = pathlib.Path(mills.__file__).parent / f"{name}.py"
        found = set()
        for node in ast.parse(path.read_text(encoding="utf-8")).body:
            if isinstance(node, ast.ImportFrom) and node.module.startswith("wheelmarks."):
                other = node.module.split(".")[1]
                found |= {other} | self.needed(other)
        return found

    def test_files_need_those_ahead_alone(self):
        for module in FUNCTIONS:
            name = module.__name__.split(".")[1]
            self.assertEqual([other for other in self.needed(name) if other in ROW[ROW.index(name):]], [], name)

    def test_names_and_arguments(self):
        for module, functions in FUNCTIONS.items():
            for name, words in functions.items():
                function = getattr(module, name)
                self.assertEqual(function.__module__, module.__name__)
                self.assertEqual(" ".join(inspect.signature(function).parameters), words, name)


if __name__ == "__main__":
    unittest.main()
