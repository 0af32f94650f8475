"""Lists for tuples, arguments by name, and that nothing handed in or told is shared."""

import copy
import inspect
import unittest

from tests.samples import BEGINS, EDGES, EMPTY, FURTHER, GREAT, MILL, SQUARE, TWO, WRONG, has_list, listed, mixed
from wheelmarks import mills, rings
from wheelmarks.errors import NoSaying, NoWheel, Twice, Unfit

PQR = (("p", 1), ("q", 1), ("r", -1))
CALLS = (
    (mills.is_mill, {"thing": MILL}),
    (mills.is_begins, {"mill": MILL, "thing": FURTHER}),
    (mills.is_setting, {"mill": MILL, "thing": BEGINS}),
    (mills.off_by, {"mill": MILL, "begins": FURTHER, "name": "q"}),
    (mills.unkept, {"mill": MILL, "begins": FURTHER}),
    (mills.shows_at, {"wheel": ("b", 8, 2), "begin": 3, "tick": -4}),
    (mills.next_show, {"wheel": ("b", 8, 2), "begin": 3, "tick": 5}),
    (mills.last_show, {"wheel": ("b", 8, 2), "begin": 3, "tick": 10}),
    (mills.showing, {"mill": MILL, "begins": BEGINS, "tick": 11}),
    (mills.with_wheel, {"mill": MILL, "wheel": ("bb", 3, 2)}),
    (mills.without_wheel, {"mill": (MILL[0], MILL[1][:1]), "name": "c"}),
    (mills.with_saying, {"mill": MILL, "saying": ("pp", "", "c", 3, GREAT)}),
    (mills.without_saying, {"mill": MILL, "name": "q"}),
    (mills.turned_saying, {"mill": MILL, "name": "q"}),
    (mills.tidied, {"mill": EDGES}),
    (mills.shifted, {"mill": MILL, "name": "b", "ticks": 2}),
    (mills.renamed, {"mill": MILL, "pairs": (("a", "c"), ("c", "a"))}),
    (rings.is_ring, {"mill": MILL, "thing": PQR}),
    (rings.all_rings, {"mill": WRONG}),
    (rings.rings_of, {"mill": WRONG, "saying": "t"}),
    (rings.ring_sum, {"mill": WRONG, "ring": PQR}),
    (rings.ring_divisor, {"mill": WRONG, "ring": PQR}),
    (rings.can_be_kept, {"mill": SQUARE}),
    (rings.bad_ring, {"mill": SQUARE}),
    (rings.is_bad_ring, {"mill": WRONG, "thing": PQR}),
    (rings.least_bad, {"mill": TWO}),
    (rings.kept_lots, {"mill": WRONG}),
)
REFUSED = (
    (mills.off_by, (MILL, BEGINS, "a"), NoSaying, "a"),
    (mills.with_wheel, (MILL, ("a", 3, 1)), Twice, "a"),
    (mills.without_wheel, (MILL, "d"), NoWheel, "d"),
    (mills.without_wheel, (MILL, "a"), Unfit, None),
    (mills.with_saying, (MILL, ("p", "a", "d", 0, 1)), NoWheel, "d"),
    (mills.with_saying, (MILL, ("p", "a", "b", 0, 1)), Twice, "p"),
    (mills.with_saying, (MILL, ("s", "b", "b", 0, 1)), Unfit, None),
    (mills.without_saying, (MILL, "a"), NoSaying, "a"),
    (mills.turned_saying, (MILL, "a"), NoSaying, "a"),
    (mills.shifted, (MILL, "", 1), NoWheel, ""),
    (mills.renamed, (MILL, (("d", "a"),)), NoWheel, "d"),
    (mills.renamed, (MILL, (("a", "b"),)), Twice, "b"),
    (rings.rings_of, (MILL, "a"), NoSaying, "a"),
    (rings.ring_sum, (MILL, (("s", 1),)), NoSaying, "s"),
    (rings.ring_divisor, (MILL, (("s", 1),)), NoSaying, "s"),
)


def in_lists(named, change):
    """The arguments changed, but for thing, in which a list is no tuple."""
    return {name: value if name == "thing" else change(value) for name, value in named.items()}


class Calls(unittest.TestCase):
    def test_each_function_is_here(self):
        for module in (mills, rings):
            for name in FUNCTIONS[module]:
                self.assertTrue(any(function is getattr(module, name) for function, _ in CALLS), name)

    def test_lists_and_names(self):
        for function, named in CALLS:
            told = function(*named.values())
            self.assertEqual(function(**named), told)
            self.assertEqual(repr(function(*in_lists(named, listed).values())), repr(told), function.__name__)
            self.assertEqual(repr(function(**in_lists(named, mixed))), repr(told), function.__name__)

    def test_told_in_tuples(self):
        for function, named in CALLS:
            told = function(**in_lists(named, listed))
            for part in told if isinstance(told, list) else (told,):
                self.assertFalse(has_list(part), function.__name__)

    def test_arguments_are_as_they_were(self):
        for function, named in CALLS:
            values = in_lists(named, listed)
            before = copy.deepcopy(values)
            function(**values)
            self.assertEqual(values, before, function.__name__)

    def test_told_lists_are_the_callers(self):
        for function, named in CALLS:
            told = function(**named)
            if isinstance(told, list):
                kept = list(told)
                told.append("more")
                told.reverse()
                self.assertEqual(function(**named), kept)

    def test_told_mills_do_not_change_with_the_argument(self):
        for function, named in CALLS:
            values = in_lists(named, listed)
            told = function(**values)
            before = repr(told)
            for value in values.values():
                if isinstance(value, list):
                    value.clear()
            self.assertEqual(repr(told), before)

    def test_told_mills_are_mills(self):
        for function, named in CALLS:
            if function.__name__ in ("with_wheel", "without_wheel", "with_saying", "without_saying", "turned_saying",
                                     "tidied", "shifted", "renamed"):
                self.assertIs(mills.is_mill(function(**named)), True)

    def test_errors_with_lists_too(self):
        for function, values, kind, name in REFUSED:
            for change in (lambda value: value, listed, mixed):
                given = [change(value) for value in values]
                before = copy.deepcopy(given)
                with self.assertRaises(kind) as caught:
                    function(*given)
                self.assertEqual(getattr(caught.exception, "name", None), name)
                self.assertEqual(given, before)

    def test_empty_mill(self):
        told = [function(EMPTY) for function in (mills.tidied, rings.all_rings, rings.can_be_kept, rings.kept_lots)]
        self.assertEqual(told, [EMPTY, [], True, [()]])


FUNCTIONS = {
    mills: {
        "is_mill": "thing", "is_begins": "mill thing", "is_setting": "mill thing", "off_by": "mill begins name",
        "unkept": "mill begins", "shows_at": "wheel begin tick", "next_show": "wheel begin tick",
        "last_show": "wheel begin tick", "showing": "mill begins tick", "with_wheel": "mill wheel",
        "without_wheel": "mill name", "with_saying": "mill saying", "without_saying": "mill name",
        "turned_saying": "mill name", "tidied": "mill", "shifted": "mill name ticks", "renamed": "mill pairs",
    },
    rings: {
        "is_ring": "mill thing", "all_rings": "mill", "rings_of": "mill saying", "ring_sum": "mill ring",
        "ring_divisor": "mill ring", "can_be_kept": "mill", "bad_ring": "mill", "is_bad_ring": "mill thing",
        "least_bad": "mill", "kept_lots": "mill",
    },
}


class Interface(unittest.TestCase):
    def test_names_and_arguments(self):
        for module, functions in FUNCTIONS.items():
            for name, words in functions.items():
                function = getattr(module, name)
                self.assertEqual(function.__module__, module.__name__)
                self.assertEqual(" ".join(inspect.signature(function).parameters), words, name)


if __name__ == "__main__":
    unittest.main()
