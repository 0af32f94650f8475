import copy
import random
import unittest

from tests.brute import as_begins, begins_up_to, just, keeps
from tests.case import Case
from tests.samples import BARE, BEGINS, EDGES, EMPTY, GREAT, MILL, ODD, SQUARE, WRONG, has_list, listed, mixed
from wheelmarks.board import Board
from wheelmarks.covers import is_covered, is_more, is_uncovered
from wheelmarks.errors import NoSaying, NothingDone, NoWheel, NoWord, Twice, Unfit
from wheelmarks.mills import is_setting
from wheelmarks.rings import can_be_kept

EVEN = (("s", "a", "b", 1, 2, 0),)
NEXT = (("t", "b", "c", 0, 2, 0), ("u", "b", "c", 1, 2, 0))
REST = (("t", "b", "c", 0, 3, 0), ("u", "b", "c", 1, 3, 0))
FREE = (MILL[0], MILL[1][:1])


def told_of(board):
    """All that a Board tells, but for what is asked with a SAYING, and a list of its choices."""
    papers = {name: board.paper(name) for name in board.names}
    choices = {name: board[name] for name in board.names}
    return (
        board.mill, board.names, len(board), choices, board.can_be_set(), board.holding(),
        [board.holds(name) for name in board.names], papers, [board.hangs_on(name) for name in board.names],
    )


class Plain:
    """What a Board ought to be: a list of all its states, each a pair of a MILL and choices by name."""

    def __init__(self, mill):
        self.states = [(mill, {})]

    def now(self):
        return self.states[-1]

    def keeps_one(self, begins, more):
        return any(keeps(begins, (name, one, other, late + at, dial)) for name, one, other, late, dial, room in more
                   for at in range(room + 1))

    def holds(self, mill, more, number):
        return all(self.keeps_one(as_begins(begun), more) for begun in begins_up_to(mill, number))

    def done(self, deed, *given):
        """The error that a deed raises, None if it is done."""
        mill, choices = self.now()
        ends, marks = ["", *[wheel[0] for wheel in mill[0]]], [saying[0] for saying in mill[1]]
        if deed == "put":
            if not (given[0].isalpha() and given[0].islower()) or not is_more(mill, given[1]):
                return Unfit
            self.states.append((mill, {**choices, given[0]: given[1]}))
        elif deed == "drop":
            if given[0] not in choices:
                return NoWord
            self.states.append((mill, {name: more for name, more in choices.items() if name != given[0]}))
        elif deed == "say":
            name, one, other, _, _ = given[0]
            if one not in ends or other not in ends:
                return NoWheel
            if name in marks or any(name == further[0] for more in choices.values() for further in more):
                return Twice
            if one == other:
                return Unfit
            self.states.append(((mill[0], tuple(sorted((*mill[1], given[0])))), choices))
        elif deed == "unsay":
            if given[0] not in marks:
                return NoSaying
            self.states.append((just(mill, [name for name in marks if name != given[0]]), choices))
        elif len(self.states) == 1:
            return NothingDone
        else:
            self.states.pop()
        return None


class Examples(Case):
    def test_day(self):
        """Part of the example of the document, with what is left out there."""
        board = Board(FREE)
        self.assertEqual((board.put("even", EVEN), board.put("next", NEXT)), (None, None))
        self.assertEqual((board["even"], board["next"], board.names), (EVEN, NEXT, ("even", "next")))
        self.assertEqual((board.hangs_on("even"), board.hangs_on("next"), board.paper("even")), (("p",), (), None))
        self.assertIsNone(board.put("rest", REST))
        self.assertIs(is_uncovered(FREE, REST, board.paper("rest")), True)
        self.assertEqual(board.hangs_on("rest"), ())
        self.assertEqual((board.newly(("q", "b", "c", 7, 6)), board.names), (("rest",), ("even", "next", "rest")))
        self.assertIsNone(board.say(("q", "b", "c", 7, 6)))
        self.assertEqual((board.holding(), board.hangs_on("rest")), (("even", "next", "rest"), ("q",)))
        self.assertEqual(board.newly(("r", "b", "c", 7, 6)), ())


class Errors(Case):
    def setUp(self):
        self.board = Board(MILL)
        self.board.put("even", EVEN)
        self.board.put("rest", REST)

    def tearDown(self):
        """What was refused has changed nothing."""
        self.assertEqual((self.board.mill, self.board.names, self.board["even"], self.board["rest"]),
                         (MILL, ("even", "rest"), EVEN, REST))
        self.assertEqual([self.board.undo() for _ in range(2)], [None, None])
        self.raises(NothingDone, {}, self.board.undo)
        self.assertEqual(self.board, Board(MILL))

    def test_no_word(self):
        for word in ("", "odd", "s", "p", "Even", "evens"):
            for method in ("drop", "holds", "paper", "hangs_on", "__getitem__"):
                self.raises(NoWord, {"word": word}, getattr(self.board, method), word)

    def test_put(self):
        for name in ("", "Even", "even1", "evenevene", "a b", "\u00e9"):
            self.raises(Unfit, {}, self.board.put, name, EVEN)
        for more in (
            (("p", "a", "b", 1, 2, 0),), (("s", "a", "b", 1, 2),), (("s", "a", "z", 1, 2, 0),),
            (("s", "a", "a", 1, 2, 0),),
            (("s", "a", "b", 1, 2, -1),), (("s", "a", "b", 1, -2, 0),), NEXT[::-1], NEXT[:1] * 2,
            (("S", "a", "b", 1, 2, 0),),
            (("s", "", "", 1, 2, 0),), EVEN + MILL[1],
        ):
            self.raises(Unfit, {}, self.board.put, "even", more)
            self.raises(Unfit, {}, self.board.put, "new", listed(more))

    def test_say_and_newly(self):
        for method in (self.board.say, self.board.newly):
            for ends, name in ((("x", "y"), "x"), (("a", "y"), "y"), (("", "p"), "p"), (("x", "x"), "x")):
                for mark in ("p", "s", "n"):
                    self.raises(NoWheel, {"name": name}, method, (mark, *ends, 0, 2))
            for mark in ("p", "r", "s", "t", "u"):
                self.raises(Twice, {"name": mark}, method, (mark, "a", "b", 0, 2))
                self.raises(Twice, {"name": mark}, method, [mark, "a", "a", 0, 2])
            for end in ("", "a"):
                self.raises(Unfit, {}, method, ("n", end, end, 0, 2))

    def test_unsay(self):
        for name in ("", "a", "s", "t", "even"):
            self.raises(NoSaying, {"name": name}, self.board.unsay, name)

    def test_not_gone_through(self):
        for told in (iter, list, tuple, sorted, set):
            with self.assertRaises(TypeError):
                told(self.board)
        with self.assertRaises(TypeError):
            for _ in self.board:
                self.fail()
        with self.assertRaises(TypeError):
            hash(self.board)


class Edges(Case):
    def test_in(self):
        board = Board(MILL)
        board.put("a", EVEN)
        for thing in (*ODD, MILL, {}, {"a": 1}, {"a"}, b"a", board, ["a"]):
            self.assertIs(thing in board, type(thing) is str and thing == "a")
        self.assertIs("p" in board, False)

    def test_equal(self):
        board, other = Board(MILL), Board(listed(MILL))
        for thing in (MILL, None, (), "board", 0, (MILL, ())):
            self.assertEqual((board == thing, board != thing), (False, True))
        self.assertEqual((board == other, board != other, board == board), (True, False, True))
        board.put("a", EVEN)
        self.assertEqual((board == other, board != other), (False, True))
        other.put("b", EVEN)
        self.assertIs(board == other, False)
        other.put("a", NEXT)
        board.put("b", EVEN)
        self.assertIs(board == other, False)
        other.put("a", EVEN)
        # How it came to be so does not count.
        self.assertIs(board == other, True)
        board.say(("n", "a", "", 1, 1))
        self.assertIs(board == other, False)

    def test_empty(self):
        board = Board(EMPTY)
        self.assertEqual(told_of(board), (EMPTY, (), 0, {}, True, (), [], {}, []))
        board.put("a", ())
        self.assertEqual((board["a"], board.holds("a"), board.paper("a"), board.hangs_on("a")), ((), False, (), ()))

    def test_no_setting(self):
        board = Board(WRONG)
        for name, more in (("even", (("x", "a", "b", 0, 2, 0),)), ("none", ())):
            board.put(name, more)
            self.assertEqual((board.holds(name), board.paper(name), board.can_be_set()), (True, None, False))
        # Without one of the bad RING there is a SETTING again.
        self.assertEqual(board.hangs_on("none"), ("p", "q", "r"))
        self.assertEqual(board.hangs_on("even"), ("q", "r"))
        board.unsay("r")
        self.assertEqual((board.holding(), board.can_be_set()), ((), True))
        self.assertEqual(board.newly(("r", "a", "c", 4, 6)), ("even", "none"))
        self.assertEqual(Board(SQUARE).can_be_set(), False)

    def test_deeds_that_change_nothing(self):
        board = Board(MILL)
        board.put("even", EVEN)
        board.put("even", EVEN)
        board.put("even", NEXT)
        self.assertEqual((len(board), board["even"]), (1, NEXT))
        board.undo()
        self.assertEqual(board["even"], EVEN)
        board.undo()
        self.assertEqual(board["even"], EVEN)
        board.undo()
        self.raises(NothingDone, {}, board.undo)
        self.assertEqual(len(board), 0)

    def test_arguments_are_copied(self):
        mill, more, saying = listed(MILL), listed(NEXT), ["n", "a", "", 1, 4]
        board = Board(mill)
        board.put("next", more)
        board.say(saying)
        before = copy.deepcopy((mill, more, saying))
        told = told_of(board)
        self.assertEqual((mill, more, saying), before)
        mill[0].clear()
        mill[1][0][3] = 7
        more[0][3] = 5
        more.clear()
        saying.clear()
        self.assertEqual(told_of(board), told)
        self.assertIs(has_list((board.mill, board["next"], board.names)), False)
        board.undo()
        self.assertEqual((board.mill, board["next"]), (MILL, NEXT))

    def test_by_names(self):
        board = Board(mill=mixed(MILL))
        board.put(name="even", more=mixed(EVEN))
        board.say(saying=["n", "a", "", 1, 4])
        self.assertEqual(board.newly(saying=("m", "a", "", 1, 4)), ())
        self.assertEqual((board.holds(name="even"), board.paper(name="even")), (True, None))
        board.unsay(name="q")
        self.assertEqual(board.hangs_on(name="even"), ("p",))
        board.undo()
        board.unsay(name="n")
        board.drop(name="even")
        self.assertEqual((board, len(board)), (Board(MILL), 0))

    def test_twins_share_nothing(self):
        board = Board(FREE)
        board.put("even", EVEN)
        board.say(("q", "b", "c", 7, 6))
        twin = board.twin()
        self.assertEqual((twin == board, twin is board), (True, False))
        self.raises(NothingDone, {}, twin.undo)
        twin.drop("even")
        twin.unsay("q")
        self.assertEqual((board.mill[1][1:], board["even"], twin), ((("q", "b", "c", 7, 6),), EVEN, Board(FREE)))
        board.undo()
        board.undo()
        board.put("rest", REST)
        self.assertEqual((twin, len(twin), len(board)), (Board(FREE), 0, 1))
        twin.undo()
        twin.undo()
        self.assertEqual((twin["even"], twin.names, "rest" in twin), (EVEN, ("even",), False))

    def test_forty_deeds(self):
        board = Board(EDGES)
        for at in range(20):
            board.put("k" + "abcdefghijklmnopqrst"[at], ((("x", "p", "q", at, GREAT, 0)),))
            board.say(("m" + "abcdefghijklmnopqrst"[at], "p", "", GREAT * at, 1))
        self.assertEqual((len(board), len(board.mill[1])), (20, 24))
        for _ in range(40):
            board.undo()
        self.raises(NothingDone, {}, board.undo)
        self.assertEqual(board, Board(EDGES))


class GoneThrough(Case):
    NUMBER = 12

    def some_saying(self, source, mark):
        one, other = source.choice(["", "a", "b", "z"] + ["a", "b", ""] * 4), source.choice(["b", "a", ""] * 5 + ["y"])
        return (mark, one, other, source.randrange(-2, 4), source.choice((1, 2, 3, 4, 6)))

    def some_deed(self, source):
        word = source.choice(("put", "put", "drop", "say", "say", "say", "unsay", "undo"))
        if word == "put":
            marks = sorted(source.sample("klmnop", source.randrange(4)))
            more = tuple((*self.some_saying(source, mark), source.randrange(2)) for mark in marks)
            return word, source.choice(("k", "one", "two", "One")), more
        if word == "say":
            return word, self.some_saying(source, source.choice("klmnopqrstuvwxyz"))
        if word == "undo":
            return (word,)
        return word, source.choice(("k", "one", "two", "l", "m", "q", "r"))

    def compare(self, board, plain, number):
        mill, choices = plain.now()
        holding = tuple(sorted(name for name, more in choices.items() if plain.holds(mill, more, number)))
        self.assertEqual((board.mill, board.names, len(board)), (mill, tuple(sorted(choices)), len(choices)))
        self.assertEqual({name: board[name] for name in board.names}, choices)
        self.assertEqual([name in board for name in ("k", "one", "two", "q")],
                         [name in choices for name in ("k", "one", "two", "q")])
        self.assertEqual((board.holding(), board.can_be_set()), (holding, begins_up_to(mill, number) != []))
        for name, more in choices.items():
            self.assertIs(board.holds(name), name in holding)
            paper = board.paper(name)
            self.assertIs(paper is None, name in holding)
            if paper is not None:
                self.assertIs(is_setting(mill, paper) and not plain.keeps_one(paper, more), True)
            marks = [saying[0] for saying in mill[1]]
            without = {gone: just(mill, [mark for mark in marks if mark != gone]) for gone in marks}
            right = [gone for gone in marks if not plain.holds(without[gone], more, number)]
            self.assertEqual(board.hangs_on(name), tuple(right) if name in holding else ())
        return holding

    def check_newly(self, board, plain, saying):
        mill, choices = plain.now()
        trial = Plain(mill)
        trial.states = [(mill, choices)]
        error = trial.done("say", saying)
        if error is not None:
            with self.assertRaises(error):
                board.newly(saying)
            return
        own = trial.now()[0]
        before, behind = [
            {name for name, more in choices.items() if plain.holds(one, more, self.NUMBER)} for one in (mill, own)
        ]
        self.assertEqual(board.newly(saying), tuple(sorted(behind - before)))

    def test_runs(self):
        source = random.Random(201)
        told = set()
        for _ in range(12):
            mill = ((("a", 6, 1), ("b", 4, 1)), ())
            board, plain = Board(mill), Plain(mill)
            for _ in range(36):
                deed, *given = self.some_deed(source)
                error = plain.done(deed, *given)
                if error is None:
                    self.assertIsNone(getattr(board, deed)(*[source.choice((value, listed(value))) for value in given]))
                else:
                    with self.assertRaises(error):
                        getattr(board, deed)(*given)
                told.add((deed, error))
                holding = self.compare(board, plain, self.NUMBER)
                self.check_newly(board, plain, self.some_saying(source, source.choice("klmnopqr")))
                told.add((len(board) > 1, len(holding) > 0, board.can_be_set()))
            self.check_back(board, plain)
        for deed in ("put", "drop", "say", "unsay", "undo"):
            self.assertIn((deed, None), told)
        for fault in (
            ("put", Unfit), ("drop", NoWord), ("say", NoWheel), ("say", Twice), ("say", Unfit), ("unsay", NoSaying),
            ("undo", NothingDone), (True, True, True), (True, False, True), (True, True, False),
        ):
            self.assertIn(fault, told)

    def check_back(self, board, plain):
        twin = board.twin()
        self.raises(NothingDone, {}, twin.undo)
        while len(plain.states) > 1:
            plain.states.pop()
            board.undo()
            self.compare(board, plain, self.NUMBER)
        self.raises(NothingDone, {}, board.undo)
        self.assertEqual(board, Board(plain.now()[0]))

    def test_what_holds_goes_on(self):
        source = random.Random(202)
        for _ in range(12):
            board = Board(((("a", 6, 1), ("b", 4, 1)), ()))
            for name in ("one", "two", "six"):
                board.put(name, tuple((*self.some_further(source, mark + name), 1) for mark in "kl"))
            before = board.holding()
            for mark in "pqr":
                board.say(self.some_further(source, mark))
                self.assertTrue(set(before) <= set(board.holding()))
                before = board.holding()
                both = tuple(sorted(board["one"] + board["two"]))
                if "one" in before:
                    self.assertIs(is_covered(board.mill, both), True)
            self.assertIs(board.can_be_set(), can_be_kept(board.mill))

    def some_further(self, source, mark):
        return (mark, *source.sample(["", "a", "b"], 2), source.randrange(3), source.choice((2, 3, 4)))


class Same(Case):
    def test_told_again(self):
        board = Board(BARE)
        board.put("even", EVEN)
        self.assertEqual(told_of(board), told_of(board))
        self.assertEqual(told_of(board), told_of(board.twin()))
        self.assertIs(is_uncovered(BARE, EVEN, board.paper("even")), True)
        self.assertEqual(BEGINS, (("a", 0), ("b", 3), ("c", 5)))


if __name__ == "__main__":
    unittest.main()
