"""Lists for tuples, arguments by name, and that nothing handed in or told is shared."""

import ast
import copy
import inspect
import pathlib
import unittest

from tests.calls import CALLS, FUNCTIONS, REFUSED
from tests.samples import EMPTY, listed, has_list, mixed, patchy
from wheelmarks import board, mills, rings


TELL_MILLS = (
    "with_wheel without_wheel with_saying without_saying turned_saying tidied shifted renamed meet_mill least_dials "
    "left_by joined mill_by put_together mill_from"
).split()


def in_lists(named, change):
    """The arguments changed, but for thing, in which a list is no tuple."""
    return {name: value if name == "thing" else change(value) for name, value in named.items()}


class Calls(unittest.TestCase):
    def test_each_function_is_here(self):
        for module, functions in FUNCTIONS.items():
            for name in functions:
                self.assertTrue(any(function is getattr(module, name) for function, _ in CALLS), name)

    def test_lists_and_names(self):
        for function, named in CALLS:
            told = function(*named.values())
            self.assertEqual(function(**named), told)
            self.assertEqual(repr(function(**named)), repr(told))
            self.assertEqual(repr(function(*in_lists(named, listed).values())), repr(told), function.__name__)
            self.assertEqual(repr(function(**in_lists(named, mixed))), repr(told), function.__name__)
            for change in (patchy, lambda value: patchy(value, 1)):
                self.assertEqual(repr(function(**in_lists(named, change))), repr(told), function.__name__)

    def test_told_is_something(self):
        """A call that tells None, False or nothing at all would show little in the other tests."""
        for function, named in CALLS:
            self.assertTrue(function(**named), function.__name__)

    def test_told_in_tuples(self):
        for function, named in CALLS:
            told = function(**in_lists(named, listed))
            for part in told if isinstance(told, list) else (told,):
                self.assertFalse(has_list(part), function.__name__)

    def test_arguments_are_as_they_were(self):
        for function, named in CALLS:
            values = in_lists(named, listed)
            before = copy.deepcopy(values)
            function(**values)
            self.assertEqual(values, before, function.__name__)

    def test_told_lists_are_the_callers(self):
        for function, named in CALLS:
            told = function(**named)
            if isinstance(told, list):
                kept = list(told)
                told.append("more")
                told.reverse()
                self.assertEqual(function(**named), kept)

    def test_told_mills_do_not_change_with_the_argument(self):
        for function, named in CALLS:
            values = in_lists(named, listed)
            told = function(**values)
            before = repr(told)
            for value in values.values():
                if isinstance(value, list):
                    value.clear()
            self.assertEqual(repr(told), before)

    def test_told_mills_are_mills(self):
        for function, named in CALLS:
            if function.__name__ in TELL_MILLS:
                self.assertIs(mills.is_mill(function(**named)), True)

    def test_errors_with_lists_too(self):
        for function, values, kind, name in REFUSED:
            for change in (lambda value: value, listed, mixed, patchy):
                given = [change(value) for value in values]
                before = copy.deepcopy(given)
                with self.assertRaises(kind) as caught:
                    function(*given)
                self.assertEqual(getattr(caught.exception, "name", None), name)
                self.assertEqual(given, before)

    def test_empty_mill(self):
        told = [function(EMPTY) for function in (mills.tidied, rings.all_rings, rings.can_be_kept, rings.kept_lots)]
        self.assertEqual(told, [EMPTY, [], True, [()]])


# What Board defines itself, with the names of the arguments.
BOARD = {
    "__init__": "mill", "__len__": "", "__contains__": "name", "__getitem__": "name", "__iter__": "", "__eq__": "other",
    "put": "name more", "drop": "name", "say": "saying", "unsay": "name", "undo": "", "twin": "", "can_be_set": "",
    "holds": "name", "holding": "", "paper": "name", "newly": "saying", "hangs_on": "name",
}
# What each file needs lies in those ahead of it, or in the ones that the document does not list.
ROW = (
    "errors mills rings sures settings covers meets rules lean seen asks wrong bridges hands sheets judge texts board"
    " desk"
).split()


class Interface(unittest.TestCase):
    def needed(self, name):
        """The names of all files of the package that this one needs, through others, too."""
        path = pathlib.Path(mills.__file__).parent / f"{name}.py"
        found = set()
        for node in ast.parse(path.read_text(encoding="utf-8")).body:
            if isinstance(node, ast.ImportFrom) and node.module.startswith("wheelmarks."):
                other = node.module.split(".")[1]
                found |= {other} | self.needed(other)
        return found

    def test_files_need_those_ahead_alone(self):
        for module in (*FUNCTIONS, board):
            name = module.__name__.split(".")[1]
            self.assertEqual([other for other in self.needed(name) if other in ROW[ROW.index(name):]], [], name)

    def test_names_and_arguments(self):
        for module, functions in FUNCTIONS.items():
            for name, words in functions.items():
                function = getattr(module, name)
                self.assertEqual(function.__module__, module.__name__)
                self.assertEqual(" ".join(inspect.signature(function).parameters), words, name)

    def test_all_files_are_here(self):
        told = [module.__name__.split(".")[1] for module in (*FUNCTIONS, board)]
        self.assertEqual(sorted(["errors", *told]), sorted(ROW))

    def test_board(self):
        self.assertEqual((board.Board.__module__, board.Board.__bases__), ("wheelmarks.board", (object,)))
        for name, words in BOARD.items():
            method = vars(board.Board)[name]
            self.assertEqual(" ".join(inspect.signature(method).parameters), ("self " + words).strip(), name)


if __name__ == "__main__":
    unittest.main()
