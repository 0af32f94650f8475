import itertools
import random
import unittest

from tests.brute import as_begins, begins_up_to, every_ring, is_bad, just, keeps, kept_mills, least_parts, ought_setting
from tests.brute import parts_of, sign_at
from tests.case import Case
from tests.samples import BARE, BEGINS, EMPTY, GREAT, MILL, ODD, SQUARE, WRONG, changed, listed, mixed
from wheelmarks import asks, bridges, covers, hands, lean, meets, rings, rules, seen, sheets, sures, wrong
from wheelmarks.errors import NoNumber, NoPaper, NoReader, NoSaying, NoSetting, NoWheel, NoWord, Twice, Unfit
from wheelmarks.judge import grounds, is_paper, leans_on, narrowed_to, paper, stands, without
from wheelmarks.mills import is_mill

SHEETS = (("ann", ("p",)), ("bob", ("q", "r")))
# Of each word a PROMISE of MILL, and what says whether it stands: the function that its row names.
SAYS = {
    "kept": rings.can_be_kept,
    "sure": sures.is_sure,
    "needless": lambda mill, name: name in lean.needless_sayings(mill),
    "covered": covers.is_covered,
    "apart": lambda mill, some: not meets.can_meet(mill, some),
    "meet": meets.surely_meet,
    "rule": rules.holds,
    "clash": lambda mill, looks: seen.a_fitting(mill, looks) is None,
    "seen": lambda mill, looks, wheel, tick: seen.sure_at(mill, looks, wheel, tick) is True,
    "told": asks.comes_to,
    "found": lambda mill, first, second: tuple(sorted((first, second))) not in wrong.twins(mill),
    "agree": bridges.agree,
    "hands": lambda mill, number: hands.most_at_once(mill) <= number,
    "band": lambda mill, told, readers, one, other, dial: sures.is_sure(
        sheets.put_together(mill, told, readers), one, other, sheets.told(mill, told, readers, one, other)[0], dial
    ),
}
LONE = (("d", "b", "c", 0, 2, 0),)
GIVEN = {
    "kept": (), "sure": ("a", "c", 5, 12), "needless": ("p",), "covered": (LONE,), "apart": (("b", "c"),),
    "meet": (("a", "b"),), "rule": (("a",), ("b",)), "clash": (((0, "a", True), (1, "c", True)),),
    "seen": (((0, "a", True),), "b", 3), "told": ((("a", "", 4),), ("b", "", 4)), "found": ("p", "q"), "agree": (MILL,),
    "hands": (1,), "band": (SHEETS, ("ann",), "a", "c", 2),
}
WORDS = tuple(SAYS)
WHOLE = ("needless", "found", "agree", "band")
# Those that need no SETTING, as the functions of their rows do not.
FREE = ("kept", "covered", "clash")


def promise_of(word, mill=MILL):
    return (word, mill, *GIVEN[word])


def says(promise):
    return SAYS[promise[0]](*promise[1:])


def with_mill(promise, mill):
    return (promise[0], mill, *promise[2:])


class Errors(Case):
    NEWS = ((stands,), (paper,), (is_paper, BEGINS), (without, ("z",)), (narrowed_to, "z", 5), (leans_on,), (grounds,))

    JUDGED = ((stands,), (paper,), (is_paper, None), (is_paper, (BEGINS, 0)), (leans_on,), (grounds,))

    def test_no_word_first(self):
        for word in ("Kept", "", "kept ", "is_sure", "mill"):
            for given in ((WRONG,), (), (MILL, "x", "y", 0, 0)):
                for function, *more in self.NEWS:
                    self.raises(NoWord, {"word": word}, function, (word, *given), *more)

    def test_unfit(self):
        for word in WHOLE:
            for mill in (MILL, WRONG):
                promise = promise_of(word, mill)
                self.raises(Unfit, {}, without, promise, ("z",))
                self.raises(Unfit, {}, leans_on, promise)
                self.raises(Unfit, {}, grounds, promise)
        self.raises(Unfit, {}, narrowed_to, promise_of("agree"), "z", 5)

    def test_no_saying_then_no_number(self):
        for word in WORDS:
            for mill in (MILL, WRONG):
                promise = promise_of(word, mill)
                if word != "agree":
                    self.raises(NoSaying, {"name": "a"}, narrowed_to, promise, "a", 5)
                    self.raises(NoNumber, {"number": 18}, narrowed_to, promise, "p", 18)
                    self.raises(NoNumber, {"number": 1}, narrowed_to, promise, "q", 1)
                if word not in WHOLE:
                    self.raises(NoSaying, {"name": "y"}, without, promise, ("p", "y", "z"))
                    self.raises(NoSaying, {"name": ""}, without, promise, ("", "p"))

    def test_what_the_functions_raise(self):
        sheet = (("ann", ("p",)),)
        faults = (
            (("sure", MILL, "x", "y", 0, 2), NoWheel, {"name": "x"}),
            (("sure", MILL, "a", "y", 0, 2), NoWheel, {"name": "y"}),
            (("needless", WRONG, "z"), NoSaying, {"name": "z"}),
            (("covered", WRONG, (("k", "a", "z", 0, 2, 0),)), NoWheel, {"name": "z"}),
            (("apart", WRONG, ("", "z")), NoWheel, {"name": ""}), (("meet", WRONG, ("a", "z")), NoWheel, {"name": "z"}),
            (("rule", WRONG, ("y",), ("x",)), NoWheel, {"name": "y"}),
            (("rule", WRONG, (), ("x",)), NoWheel, {"name": "x"}),
            (("clash", WRONG, ((0, "z", True),)), NoWheel, {"name": "z"}),
            (("seen", WRONG, ((0, "z", True),), "y", 0), NoWheel, {"name": "z"}),
            (("seen", WRONG, (), "y", 0), NoWheel, {"name": "y"}),
            (("seen", MILL, ((0, "a", True), (0, "a", False)), "b", 0), Unfit, {}),
            (("told", WRONG, (("a", "z", 2),), ("y", "a", 2)), NoWheel, {"name": "z"}),
            (("told", WRONG, (), ("y", "a", 2)), NoWheel, {"name": "y"}),
            (("found", WRONG, "a", "b"), NoSaying, {"name": "a"}),
            (("found", WRONG, "p", "b"), NoSaying, {"name": "b"}),
            (("agree", MILL, ((("a", 5, 1),), ())), Twice, {"name": "a"}),
            (("band", WRONG, sheet, ("bob",), "x", "a", 2), NoWheel, {"name": "x"}),
            (("band", WRONG, sheet, ("bob",), "a", "", 2), NoReader, {"name": "bob"}),
        )
        for promise, error, shown in faults:
            for function, *more in self.JUDGED:
                if promise[0] not in WHOLE or function not in (leans_on, grounds):
                    self.raises(error, shown, function, promise, *more)

    def test_no_setting(self):
        for word in WORDS:
            for mill in (WRONG, SQUARE):
                promise = promise_of(word, mill)
                if word == "seen":
                    promise = (word, mill, ((0, "a", True), (0, "a", False)), "b", 0)
                for function, *more in self.JUDGED:
                    if word not in FREE and not (word in WHOLE and function in (leans_on, grounds)):
                        self.raises(NoSetting, {}, function, promise, *more)
        self.raises(NoSetting, {}, stands, ("agree", MILL, WRONG))

    def test_no_paper(self):
        for promise in (("kept", MILL), ("sure", MILL, "a", "c", 5, 12), ("hands", MILL, 3), ("agree", MILL, MILL)):
            self.raises(NoPaper, {}, paper, promise)
        self.raises(NoPaper, {}, paper, ("covered", WRONG, ()))
        self.raises(NoPaper, {}, paper, ("clash", WRONG, ()))


class Edges(Case):
    def test_mills_without_a_setting(self):
        self.assertEqual([stands(promise_of(word, WRONG)) for word in FREE], [False, True, True])
        for promise, leans, ground in (
            (("kept", WRONG), ("s", "t"), ()), (("covered", SQUARE, ()), ("p", "q", "r", "s"), ("p", "q", "r", "s")),
            (("clash", WRONG, ()), ("p", "q", "r"), ("p", "q", "r")),
        ):
            self.assertEqual((leans_on(promise), grounds(promise)), (leans, [ground]))
        self.assertIs(is_paper(("covered", WRONG, ()), BEGINS), False)

    def test_one_is_other(self):
        for late, dial, right in ((0, 0, True), (1, 0, False), (4, 2, True), (3, 2, False), (5, 1, True)):
            for end in ("", "b"):
                promise = ("sure", MILL, end, end, late, dial)
                self.assertIs(stands(promise), right)
                self.assertIs(is_paper(promise, BEGINS), not right)
                if not right:
                    self.assertIs(is_paper(promise, paper(promise)), True)
                self.assertIs(stands(("band", MILL, SHEETS, (), end, end, dial)), True)

    def test_first_is_second(self):
        for name in ("p", "q"):
            self.assertIs(stands(("found", MILL, name, name)), True)
            self.assertIs(is_paper(("found", MILL, name, name), (1, -1)), False)

    def test_hands(self):
        for number in (-GREAT, -1, 0, 1, 2, 3, GREAT):
            promise, right = ("hands", MILL, number), number >= 2
            self.assertIs(stands(promise), right)
            self.assertIs(right or is_paper(promise, paper(promise)), True)
        self.assertEqual([stands(("hands", EMPTY, number)) for number in (-1, 0)], [False, True])
        self.assertEqual(paper(("hands", EMPTY, -1)), ((), 0))

    def test_some_is_nobody(self):
        self.assertEqual([stands((word, MILL, ())) for word in ("apart", "meet")], [False, True])
        self.assertIs(is_paper(("apart", MILL, ()), (BEGINS, -GREAT)), True)
        for promise in (("rule", MILL, (), ()), ("clash", MILL, ()), ("covered", MILL, ())):
            self.assertIs(stands(promise), False)

    def test_eight_wheels(self):
        wheels = tuple((name, GREAT, 1) for name in "abcdefgh")
        mill = (wheels, (("k", "a", "h", 1, 2),))
        promise = ("apart", mill, tuple("abcdefg"))
        self.assertEqual((stands(("apart", mill, ("a", "h"))), stands(promise)), (True, False))
        self.assertIs(is_paper(promise, paper(promise)), True)

    def test_without(self):
        promise = ("covered", listed(MILL), listed(LONE))
        self.assertEqual(without(promise, []), ("covered", MILL, LONE))
        self.assertEqual(without(promise, ["p", "r"]), ("covered", (MILL[0], MILL[1][1:2]), LONE))
        self.assertEqual(without(("kept", WRONG), ("p", "q", "r", "s", "t")), ("kept", BARE))
        self.assertEqual(without(("seen", mixed(WRONG), [[0, "z", True]], "y", 0), ("t",)),
                         ("seen", (WRONG[0], WRONG[1][:4]), ((0, "z", True),), "y", 0))

    def test_narrowed(self):
        for word in WORDS:
            if word == "agree":
                continue
            for dial in (4, 12, 4 * GREAT, 0):
                own = (MILL[0], (MILL[1][0], ("q", "b", "c", 2, dial), MILL[1][2]))
                told = narrowed_to(listed(promise_of(word)), "q", dial)
                self.assertEqual(told, with_mill(promise_of(word), own))
        held = (BARE[0], (("p", "a", "b", 7, 0), ("q", "a", "b", 7, 1)))
        self.assertEqual(narrowed_to(("kept", held), "p", 0), ("kept", held))
        self.raises(NoNumber, {"number": GREAT}, narrowed_to, ("kept", held), "p", GREAT)
        self.assertEqual(narrowed_to(("kept", held), "q", 5)[1][1][1], ("q", "a", "b", 7, 5))
        self.assertEqual(narrowed_to(("needless", WRONG, "z"), "t", 9)[1][1][4], ("t", "c", "", 0, 9))

    def test_bounds_of_grounds(self):
        wheels = tuple((name, GREAT, 1) for name in "abcde")
        row = tuple((name, one, other, 0, dial * GREAT) for name, one, other, dial in (
            ("k", "a", "b", 2), ("l", "a", "b", 3), ("m", "b", "c", 2), ("n", "b", "c", 3), ("o", "c", "d", 6),
            ("p", "d", "e", 4), ("q", "a", "e", 9), ("r", "", "a", 6),
        ))
        mill = (wheels, row)
        self.assertEqual(grounds(("sure", mill, "a", "d", 0, 2 * GREAT)), [("k", "m", "o")])
        self.assertEqual(grounds(("sure", mill, "a", "d", 0, GREAT)),
                         [("k", "m", "o"), ("k", "n", "o"), ("l", "m", "o"), ("l", "n", "o"), ("p", "q")])
        self.assertEqual(leans_on(("sure", mill, "a", "d", 0, 6 * GREAT)), ("k", "l", "m", "n", "o"))
        self.assertEqual(leans_on(("sure", mill, "a", "d", 1, 6 * GREAT)), tuple("klmnopqr"))
        self.assertEqual(grounds(("sure", mill, "a", "d", 1, 6 * GREAT)), [])


class GoneThrough(Case):
    ROUNDS = ((2, 1), (4, 1), (4, 2))
    NUMBER = 4

    def mills(self, seed, many):
        source = random.Random(seed)
        for wheels, sayings in ((2, 3), (3, 2), (2, 1), (3, 3)):
            for mill, _ in kept_mills(source, many, wheels, sayings, (2, 4), self.ROUNDS):
                yield source, mill

    def some_saying(self, source, ends, name):
        return (name, *source.sample(ends, 2), source.randrange(3), source.choice((2, 4)))

    def some_promise(self, source, mill, word):
        names, ends = [wheel[0] for wheel in mill[0]], ["", *[wheel[0] for wheel in mill[0]]]
        marks = [saying[0] for saying in mill[1]]
        some = tuple(sorted(source.sample(names, 2)))
        one, other = source.sample(ends, 2)
        late, dial, tick = source.randrange(-2, 5), source.choice((1, 2, 4)), source.randrange(-4, 5)
        looks = tuple(sorted({(source.randrange(4), source.choice(names), source.random() < 0.5) for _ in range(2)}))
        given = {
            "kept": (), "sure": (one, other, late, dial), "needless": (source.choice(marks),),
            "covered": (tuple((*self.some_saying(source, ends, name), source.randrange(2))
                              for name in "xyz"[:source.randrange(1, 4)]),),
            "apart": (some,), "meet": (some,), "rule": (some[:source.randrange(2)], some[source.randrange(2):]),
            "clash": (looks,), "seen": (looks[:1], source.choice(names), tick),
            "told": (((*source.sample(ends, 2), dial),), (one, other, source.choice((2, 4)))),
            "found": (source.choice(marks), source.choice(marks)), "hands": (source.randrange(0, 3),),
            "agree": ((mill[0], tuple(self.some_saying(source, ends, name) for name in ("kx", "lx"))),),
            "band": ((("ann", tuple(marks[:1])), ("bob", tuple(marks[1:]))), ("ann", "bob")[:source.randrange(1, 3)],
                     one, other, dial),
        }
        return (word, mill, *given[word])

    def shown(self, mill, begins, tick):
        return {wheel[0] for wheel in mill[0] if sign_at(wheel, dict(begins)[wheel[0]], tick) is not None}

    def fitted(self, mill, begins, looks):
        if not ought_setting(mill, begins):
            return False
        return all((wheel in self.shown(mill, begins, tick)) is so for tick, wheel, so in looks)

    def none_fits(self, promise):
        """Whether the word is seen, and no SETTING fits the LOOKS."""
        if promise[0] != "seen":
            return False
        _, mill, looks, _, _ = promise
        return not any(self.fitted(mill, begins, looks) for begins in self.things(("clash", mill, looks)))

    def far(self, begins, one, other):
        begun = {"": 0, **dict(begins)}
        return begun[other] - begun[one]

    def keeps_further(self, begins, further):
        name, one, other, late, dial, room = further
        return any(keeps(begins, (name, one, other, late + at, dial)) for at in range(room + 1))

    def had(self, mill, told, readers):
        """The MILL with what these readers have alone."""
        return just(mill, [name for reader, names in told for name in names if reader in readers])

    def can_be(self, mill):
        return begins_up_to(mill, self.NUMBER) != []

    def with_off(self, mill, name, off):
        return mill[0], tuple(
            (*saying[:3], saying[3] + off, saying[4]) if saying[0] == name else saying for saying in mill[1]
        )

    def ought(self, promise, thing):
        """Whether thing is a PAPER against the PROMISE, by the words of its row."""
        word, mill, *given = promise
        shown = self.shown
        if word == "sure":
            one, other, late, dial = given
            return ought_setting(mill, thing) and (self.far(thing, one, other) - late) % dial != 0
        if word == "needless":
            rest = just(mill, [saying[0] for saying in mill[1] if saying[0] != given[0]])
            return ought_setting(rest, thing) and not ought_setting(mill, thing)
        if word == "covered":
            return ought_setting(mill, thing) and not any(self.keeps_further(thing, further) for further in given[0])
        if word == "apart":
            return ought_setting(mill, thing[0]) and set(given[0]) <= shown(mill, *thing)
        if word == "meet":
            met = any(set(given[0]) <= shown(mill, thing, tick) for tick in range(self.NUMBER))
            return ought_setting(mill, thing) and not met
        if word == "rule":
            seen_then = shown(mill, *thing)
            return ought_setting(mill, thing[0]) and set(given[0]) <= seen_then and not set(given[1]) & seen_then
        if word == "clash":
            return self.fitted(mill, thing, given[0])
        if word == "seen":
            return self.fitted(mill, thing, given[0]) and given[1] not in shown(mill, thing, given[2])
        if word == "hands":
            return ought_setting(mill, thing[0]) and len(shown(mill, *thing)) > given[0]
        return self.ought_pair(promise, thing)

    def ought_pair(self, promise, thing):
        word, mill, *given = promise
        if word == "told":
            alike = [(self.far(thing[0], one, other) - self.far(thing[1], one, other)) % dial == 0
                     for one, other, dial in (*given[0], given[1])]
            return all(ought_setting(mill, begins) for begins in thing) and all(alike[:-1]) and not alike[-1]
        if word == "found":
            own = self.with_off(mill, given[0], thing[0])
            return given[0] != given[1] and not self.can_be(own) and self.can_be(self.with_off(own, given[1], thing[1]))
        if word == "band":
            told, readers, one, other, dial = given
            own = self.had(mill, told, readers)
            off = self.far(thing[0], one, other) - self.far(thing[1], one, other)
            return all(ought_setting(own, begins) for begins in thing) and off % dial != 0
        own = mill if word == "kept" else (mill[0], tuple(sorted(mill[1] + given[0][1])))
        return thing in every_ring(own) and is_bad(own, thing)

    def things(self, promise):
        """All papers that could be, up to the common multiple of the dials and rounds."""
        word, mill, *given = promise
        every = [as_begins(begun) for begun in begins_up_to((mill[0], ()), self.NUMBER)]
        if word in ("kept", "agree"):
            return every_ring(mill if word == "kept" else (mill[0], tuple(sorted(mill[1] + given[0][1]))))
        if word == "found":
            return list(itertools.product(range(self.NUMBER), repeat=2))
        if word in ("told", "band"):
            # One of both can be moved with all others of its kind, so a few first ones are enough.
            own = mill if word == "told" else self.had(mill, given[0], given[1])
            first = [begins for begins in every if ought_setting(own, begins)][:4]
            return list(itertools.product(first, every))
        if word in ("apart", "rule", "hands"):
            return list(itertools.product(every, range(self.NUMBER)))
        return every

    def test_papers(self):
        told = {word: set() for word in WORDS}
        for source, mill in self.mills(151, 6):
            for word in WORDS:
                promise = self.some_promise(source, mill, word)
                if self.none_fits(promise):
                    self.raises(Unfit, {}, stands, promise)
                    continue
                if word == "agree" and not self.can_be(promise[2]):
                    self.raises(NoSetting, {}, stands, promise)
                    continue
                right = [self.ought(promise, thing) for thing in self.things(promise)]
                self.assertEqual([is_paper(promise, thing) for thing in self.things(promise)], right)
                self.assertIs(stands(promise), not any(right), promise)
                self.assertIs(says(promise), not any(right))
                told[word].add(any(right))
                if any(right):
                    self.assertIs(is_paper(promise, paper(promise)), True)
                else:
                    self.raises(NoPaper, {}, paper, promise)
        self.assertEqual({word for word in WORDS if told[word] != {True, False}}, {"kept"})

    def test_kept_too(self):
        ought = [(mill, any(is_bad(mill, ring) for ring in every_ring(mill))) for mill in (MILL, WRONG, SQUARE, BARE)]
        for mill, bad in ought:
            self.assertIs(stands(("kept", mill)), not bad)
            for ring in every_ring(mill):
                self.assertIs(is_paper(("kept", mill), ring), is_bad(mill, ring))
            self.assertIs(not bad or is_paper(("kept", mill), paper(("kept", mill))), True)

    def test_leans_and_grounds(self):
        sizes = set()
        for source, mill in self.mills(152, 8):
            marks = [saying[0] for saying in mill[1]]
            for word in WORDS:
                if word in WHOLE:
                    continue
                promise = self.some_promise(source, mill, word)
                if self.none_fits(promise):
                    continue
                does = [part for part in parts_of(marks) if says(with_mill(promise, just(mill, part)))]
                self.assertEqual(grounds(promise), sorted(least_parts(does)))
                right = tuple(name for name in marks if tuple(other for other in marks if other != name) not in does)
                self.assertEqual(leans_on(promise), right)
                for part in parts_of(marks):
                    own = without(promise, part)
                    self.assertEqual(own, with_mill(promise, just(mill, [name for name in marks if name not in part])))
                    self.assertIs(stands(own), tuple(name for name in marks if name not in part) in does)
                sizes.add((len(least_parts(does)), max(map(len, least_parts(does)), default=0)))
        self.assertTrue({(0, 0), (1, 0), (1, 1), (1, 2), (2, 1)} <= sizes, sizes)

    def test_narrowed(self):
        """What stands goes on to stand if dials grow, and there is a SETTING then."""
        for source, mill in self.mills(153, 4):
            for word in ("sure", "covered", "apart", "meet", "rule", "clash", "told", "hands"):
                promise = self.some_promise(source, mill, word)
                for name, _, _, _, dial in mill[1]:
                    for times in (0, 1, 2):
                        own = narrowed_to(promise, name, times * dial)
                        self.assertIs(is_mill(own[1]), True)
                        self.assertEqual([saying for saying in own[1][1] if saying[0] != name],
                                         [saying for saying in mill[1] if saying[0] != name])
                        if rings.can_be_kept(own[1]) and stands(promise):
                            self.assertIs(stands(own), True)


class Things(Case):
    RIGHT = (BEGINS, (BEGINS, 3), (BEGINS, BEGINS), (1, 1))

    def test_any_thing(self):
        for word in WORDS:
            for promise in (promise_of(word), listed(promise_of(word)), mixed(promise_of(word))):
                for thing in (*ODD, *[odd for right in self.RIGHT for odd in changed(right)]):
                    told = is_paper(promise, thing)
                    self.assertIs(type(told), bool)
                    if not isinstance(thing, tuple):
                        self.assertIs(told, False)

    def test_papers_changed(self):
        refused = 0
        for word in WORDS:
            promise = promise_of(word)
            if stands(promise):
                self.raises(NoPaper, {}, paper, promise)
                continue
            right = paper(promise)
            self.assertIs(is_paper(promise, right), True)
            self.assertIs(is_paper(promise, listed(right)), False)
            for thing in changed(right):
                if not is_paper(promise, thing):
                    refused += 1
        self.assertGreater(refused, 1000)


if __name__ == "__main__":
    unittest.main()
