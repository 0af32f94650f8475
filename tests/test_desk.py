import random
import unittest

from tests.case import Case
from tests.samples import EDGES, EMPTY, GREAT, MILL, SQUARE, WRONG
from wheelmarks import lean, meets, mills, rings, rules, seen, settings, sures, wrong
from wheelmarks.board import Board
from wheelmarks.desk import replies
from wheelmarks.errors import BadLine, NoSaying, NoSetting, NothingDone, NoWheel, NoWord, Twice, Unfit
from wheelmarks.texts import (
    begins_text, looks_text, mill_text, names_text, numbers_text, row_text, rule_text, sayings_text,
)

REFUSED = (NoWheel, NoSaying, NoWord, NothingDone, Twice, NoSetting, Unfit)
SURE = {True: "yes", False: "no", None: "maybe"}
START = "mill a 12 1; b 8 2; c 6 1 | p a b 3 12; q b c 2 4; r a c 5 6"
BROKEN = "mill " + mill_text(WRONG)
# Lines that are none, each for a reason of its own.
NOT_LINES = (
    "", " ", "names ", " names", "names  ", "names a", "Names", "name", "names -", "hold", "-", "undo 1", "undo undo",
    "text text", "can ", "can you", "bad a",
    "lots -", "needless -", "blamed p", "holding even", "mill", "mill ", "mill -", "mill - |", "mill  - | -",
    "mill a 12 1", "mill b 1 1; a 1 1 | -",
    "mill - | - ", "mill a 1 2 | -", "put", "put even", "put even ", "put even  k a b 0 2 0", "put Even k a b 0 2 0",
    "put even1 -", "put . -", "put even k a a 0 2 0",
    "put even k a b 0 2 -1", "put even m a b 0 2 0; k a b 0 2 0", "put even k a b 0 2 0;", "put evenevene -", "drop",
    "drop ", "drop even odd", "drop .", "drop -",
    "drop even ", "say", "say -", "say p a b 0", "say p a b 0 2 0", "say p a b 0 2; q a b 0 2", "say p a a 0 2",
    "say p . . 0 2", "say p a b 0 -2", "say  p a b 0 2",
    "newly", "newly -", "newly p a b 0 2 0", "newly p a a 0 2", "newly p a b 00 2", "unsay", "unsay .", "unsay p q",
    "hangs", "hangs .", "hangs a b", "holds",
    "holds -", "holds a b", "choice", "choice .", "choice 1", "late", "late a", "late a b c", "late a  b", "late a -",
    "late a 1", "late . . .", "late a b ",
    "keeps", "keeps ", "keeps a", "keeps a 1;", "keeps b 1; a 1", "keeps . 0", "lay", "lay a", "lay a 1 ",
    "lay a 1; a 2", "hinders", "hinders a 01", "hinders -;",
    "meet", "meet ", "meet b a", "meet a a", "meet .", "meet a .", "meet a, b", "meet - a", "surely", "surely b a",
    "surely . a", "surely -  a", "rule", "rule a",
    "rule a >", "rule a > .", "rule b a > c", "rule a > b > c", "rule > a", "silence", "silence a", "silence 3",
    "silence -1 a", "silence a 3", "silence 03 a",
    "silence 3 b a", "silence 3 a a", "silence 3 .", "silence  3 a", "silence - a", "dial", "dial .", "dial p q",
    "blind", "blind -", "blind p ", "sure", "sure a",
    "sure a 1", "sure a 1 ", "sure . 1 -", "sure a x -", "sure a 01 -", "sure a 1 a", "sure a 1 0 a",
    "sure a 1 0 a yes;", "sure a 1 1 a yes; 0 a yes", "sure a 1  -",
    "first", "first a 1", "first . 1 -", "first a - -", "first a 1 0 a maybe", "first A 1 -", "mill\ta 1 1 | -",
    "names\r", "n\u00e4mes",
)


def or_none(thing, writes):
    return "none" if thing is None else writes(thing)


class Day(Case):
    def day(self, *lines):
        return replies("\n".join(lines))

    def test_each_request(self):
        """Each line with its answer, by the MILL of START and what is done ahead of it."""
        lines = (
            (START, "done"), ("put even s a b 1 2 0", "done"), ("put next t b c 0 2 0; u b c 1 2 0", "done"),
            ("names", "even next"),
            ("holding", "even next"), ("hangs even", "-"), ("hangs next", "-"), ("can", "yes"), ("holds even", "yes"),
            ("choice next", "t b c 0 2 0; u b c 1 2 0"),
            ("text", START[5:]), ("bad", "none"), ("lots", ".; a b c"), ("late a c", "5 12"), ("late . a", "0 1"),
            ("late c c", "0 0"), ("late . .", "0 0"),
            ("keeps a 0; b 3; c 5", "yes"), ("keeps a 0; b 3; c 4", "no"), ("keeps a 0; b 3", "no"),
            ("keeps -", "no"), ("lay -", "a 0; b 3; c 5"),
            ("lay b -9; c 17", "a 0; b -9; c 17"), ("hinders b -9; c 1", "b c"), ("hinders b -9; c 17", "none"),
            ("hinders -", "none"), ("meet a b", "yes"),
            ("meet a c", "no"), ("meet -", "yes"), ("surely b c", "yes"), ("surely a c", "no"), ("surely -", "yes"),
            ("rule c > b", "no"), ("rule - > -", "no"),
            ("rule a b c > -", "yes"), ("silence 3 b", "3"), ("silence 9 b", "6"), ("silence 0 a b c", "0"),
            ("silence 7 -", "7"), ("needless", "-"), ("dial r", "3"),
            ("blamed", "-"), ("blind p", "2"), ("sure b 3 0 a yes", "maybe"), ("sure b 5 0 a yes", "no"),
            ("sure a 12 0 a yes", "yes"),
            ("sure c 0 -", "maybe"), ("first a 1 0 a yes", "12"), ("first b 1 0 a yes", "none"),
            ("first c -4 -1 c yes", "-1"), ("unsay p", "done"),
            ("hangs even", "q r"), ("newly p a b 2 4", "-"), ("unsay r", "done"), ("holding", "next"),
            ("holds even", "no"), ("newly p a b -1 2", "even"),
            ("newly r c a 1 6", "even"), ("say r a c 4 6", "done"), ("undo", "done"), ("late a c", "0 1"),
            ("drop even", "done"), ("names", "next"),
            ("undo", "done"), ("names", "even next"), ("say o . a 7 0", "done"), ("late . a", "7 0"),
            ("lots", ". a; b c"), ("lay b -1", "a 7; b -1; c 1"),
            ("hinders a 8", ". a"), ("choice even", "s a b 1 2 0"), ("put even -", "done"), ("choice even", "-"),
            ("holds even", "no"), ("mill - | -", "done"),
            ("names", "-"), ("undo", "refused NothingDone"), ("text", "- | -"), ("lots", "."), ("lay -", "-"),
            ("keeps -", "yes"), ("needless", "-"),
            (BROKEN, "done"), ("bad", "p q -r"), ("can", "no"), ("blamed", "p q r"), ("put none -", "done"),
            ("holding", "none"), ("hangs none", "p q r"),
            ("keeps a 0; b 3; c 5", "no"), ("unsay q", "done"), ("bad", "none"), ("newly q b c 2 4", "none"),
        )
        told = self.day(*[line for line, _ in lines])
        for (line, right), answer in zip(lines, told):
            self.assertEqual((line, answer), (line, right))
        self.assertEqual(len(told), len(lines))

    def test_each_refusal(self):
        refused = (
            ("drop odd", "NoWord"), ("hangs odd", "NoWord"), ("holds odd", "NoWord"), ("choice odd", "NoWord"),
            ("put even p a b 0 2 0", "Unfit"),
            ("put even s a b 1 2", "Unfit"), ("put even s a z 1 2 0", "Unfit"), ("say n a z 0 2", "NoWheel"),
            ("say n z a 0 2", "NoWheel"), ("say p a b 0 2", "Twice"),
            ("newly n . z 0 2", "NoWheel"), ("newly r a b 0 2", "Twice"), ("unsay a", "NoSaying"),
            ("undo", "NothingDone"), ("late a z", "NoWheel"),
            ("late z .", "NoWheel"), ("lay a 0; z 0", "NoWheel"), ("lay a 0; b 0", "Unfit"),
            ("hinders z 0", "NoWheel"), ("meet a z", "NoWheel"),
            ("surely z", "NoWheel"), ("rule z > a", "NoWheel"), ("rule a > z", "NoWheel"), ("silence 3 z", "NoWheel"),
            ("dial a", "NoSaying"), ("blind z", "NoSaying"),
            ("sure z 0 0 a yes", "NoWheel"), ("sure a 0 0 z yes", "NoWheel"), ("sure a 0 0 a no; 0 a yes", "Unfit"),
            ("first z 0 -", "NoWheel"),
            ("first a 0 0 z yes", "NoWheel"), ("first a 0 0 a no; 0 a yes", "Unfit"),
        )
        told = self.day(START, *[line for line, _ in refused], "text", "names")
        self.assertEqual(told, ["done", *["refused " + word for _, word in refused], START[5:], "-"])
        lines = (
            "late a b", "lay -", "hinders -", "meet a", "surely a", "rule a > b", "silence 3 a", "needless", "dial p",
            "blind p", "sure a 0 -", "first a 0 -",
        )
        self.assertEqual(self.day(BROKEN, *lines), ["done", *["refused NoSetting"] * len(lines)])
        told = self.day(START, "put even s a b 1 2 0", "say s . a 0 2", "newly s . a 0 2")
        self.assertEqual(told[2:], ["refused Twice"] * 2)
        told = self.day(START, "unsay p", "undo", "undo", "text")
        self.assertEqual(told[2:], ["done", "refused NothingDone", START[5:]])

    def test_no_lines(self):
        self.assertEqual(replies(""), [])
        self.assertEqual(replies(text="names"), ["-"])
        for text, number in (
            ("\n", 0), ("names\n", 1), ("\nnames", 0), ("names\n\nnames", 1), ("names\nnames\n\n", 2), ("\n\n", 0),
            (" ", 0),
        ):
            self.raises(BadLine, {"number": number}, replies, text)

    def test_lines_that_are_none(self):
        self.assertGreater(len(NOT_LINES), 40)
        for at, line in enumerate(NOT_LINES):
            lines = ["names"] * (at % 4) + [line, "names", "none of these"]
            with self.subTest(line=line):
                self.raises(BadLine, {"number": at % 4}, self.day, *lines)

    def test_bad_lines_ahead_of_all_that_is_done(self):
        self.raises(BadLine, {"number": 2}, self.day, "drop odd", "undo", "names names", "what")
        self.raises(BadLine, {"number": 59}, self.day, *["undo"] * 59, "redo")

    def test_days_have_nothing_in_common(self):
        told = replies(START)
        told.append("more")
        self.assertEqual(self.day("text", START, "text"), ["- | -", "done", START[5:]])
        self.assertEqual(replies(START), ["done"])

    def test_great_numbers(self):
        great = str(GREAT)
        start = f"mill a {great} 4; b {great} 1 | p a b -{great} {great}"
        told = self.day(
            start, "late a b", f"lay a -{great}", f"hinders a {great}", f"first a {great} 5 a yes",
            f"first b {great} 5 b yes", "blind p", "dial p", "say q a b 7 0", "late a b", f"lay a {great}",
        )
        right = ["done", "0 " + great, f"a -{great}; b 0", "none", str(GREAT + 5), str(GREAT + 5), "1", great, "done"]
        self.assertEqual(told, right + ["refused NoSetting"] * 2)

    def test_sixty_lines(self):
        # Dials of many digits: what is sure of both has more of them than a text can have.
        dials = [10 ** 380 + at for at in (7, 9, 13, 19, 21, 31, 33, 37, 39, 43, 49, 51)]
        lines = [f"say {'k' + 'abcdefghijkl'[at]} a b 0 {dial}" for at, dial in enumerate(dials)]
        told = self.day("mill a 1 1; b 1 1 | -", *lines, *["late a b"] * 47)
        self.assertEqual((len(told), told[:13]), (60, ["done"] * 13))
        self.assertGreater(len(told[-1]), 3000)
        self.assertTrue(told[-1].startswith("0 ") and told[-1][2:].isdigit())


class SameDay(Case):
    """A drawn day, and the same by a Board and by the functions themselves."""

    WHEELS = (("a", 6, 1), ("b", 4, 2), ("c", 4, 1))

    def some_saying(self, source, mark):
        one, other = source.sample(["", "a", "b", "c", "z"] if source.random() < 0.1 else ["", "a", "b", "c"], 2)
        return (mark, one, other, source.randrange(-3, 4), source.choice((0, 1, 2, 2, 3, 4, 4)))

    def some_set(self, source, most=3):
        names = ["a", "b", "c"] if source.random() < 0.9 else ["a", "y", "z"]
        return tuple(sorted(source.sample(names, source.randrange(most + 1))))

    def some_look(self, source):
        return (source.randrange(-4, 5), source.choice("abc"), source.random() < 0.5)

    def asked(self, source, board):
        """A line, and what answers it."""
        mill = board.mill
        end, name = source.choice(["", "a", "b", "c", "z"]), source.choice("klmabz")
        other, wheel, tick = source.choice(["", "a", "b", "c"]), source.choice("abc"), source.randrange(-9, 9)
        some, more = self.some_set(source, 2), self.some_set(source)
        begins = tuple((word, source.randrange(-3, 6)) for word in self.some_set(source))
        looks = tuple(sorted({self.some_look(source) for _ in range(source.randrange(3))}))
        saying = self.some_saying(source, source.choice("klmnop"))
        dot, yes = (lambda end: end or "."), (lambda so: "yes" if so else "no")
        count = source.randrange(9)
        looked = f"{wheel} {tick} {looks_text(looks)}"
        return source.choice((
            ("names", lambda: names_text(board.names)), ("holding", lambda: names_text(board.holding())),
            ("hangs " + name, lambda: names_text(board.hangs_on(name))),
            ("newly " + sayings_text((saying,)), lambda: names_text(board.newly(saying))),
            ("can", lambda: yes(board.can_be_set())), ("holds " + name, lambda: yes(board.holds(name))),
            ("choice " + name, lambda: sayings_text(board[name])), ("text", lambda: mill_text(board.mill)),
            ("bad", lambda: or_none(rings.least_bad(mill), row_text)),
            ("lots", lambda: "; ".join(names_text(lot) for lot in sures.hang_together(mill))),
            (f"late {dot(end)} {dot(other)}", lambda: numbers_text(sures.sure_late(mill, end, other))),
            ("keeps " + begins_text(begins), lambda: yes(mills.is_setting(mill, begins))),
            ("lay " + begins_text(begins), lambda: begins_text(settings.setting_with(mill, begins))),
            ("hinders " + begins_text(begins), lambda: or_none(settings.hinders(mill, begins), names_text)),
            ("meet " + names_text(more), lambda: yes(meets.can_meet(mill, more))),
            ("surely " + names_text(some), lambda: yes(meets.surely_meet(mill, some))),
            ("rule " + rule_text((some, more)), lambda: yes(rules.holds(mill, some, more))),
            (f"silence {count} {names_text(more)}", lambda: str(rules.silence(mill, more, count))),
            ("needless", lambda: names_text(lean.needless_sayings(mill))),
            ("dial " + name, lambda: str(lean.smaller_dial(mill, name))),
            ("blamed", lambda: names_text(wrong.blamed(mill))),
            ("blind " + name, lambda: str(wrong.blind_step(mill, name))),
            ("sure " + looked, lambda: SURE[seen.sure_at(mill, looks, wheel, tick)]),
            ("first " + looked, lambda: or_none(seen.first_sure(mill, looks, wheel, tick), str)),
        ))

    def deed(self, source, board):
        saying, name = self.some_saying(source, source.choice("klmnop")), source.choice("klmab")
        # Now and then one has no room, and so the lot is no choice.
        parts = 5 + (source.random() < 0.9)
        more = tuple((*self.some_saying(source, mark), 0)[:parts] for mark in "uvw"[:source.randrange(4)])
        return source.choice((
            ("put " + name + " " + sayings_text(more), lambda: board.put(name, more)),
            ("drop " + name, lambda: board.drop(name)),
            ("say " + sayings_text((saying,)), lambda: board.say(saying)),
            ("say " + sayings_text((saying,)), lambda: board.say(saying)),
            ("unsay " + name, lambda: board.unsay(name)), ("undo", lambda: board.undo()),
        ))

    def answer(self, asked):
        try:
            told = asked()
        except REFUSED as error:
            return "refused " + type(error).__name__
        return "done" if told is None else told

    def test_days(self):
        source = random.Random(211)
        told, refused = set(), set()
        for _ in range(40):
            board, lines, right = Board((self.WHEELS, ())), ["mill " + mill_text((self.WHEELS, ()))], ["done"]
            for _ in range(59):
                line, asked = (self.deed if source.random() < 0.4 else self.asked)(source, board)
                lines.append(line)
                right.append(self.answer(asked))
                told.add((line.split(" ")[0], right[-1].startswith("refused")))
                refused.add(right[-1] if right[-1].startswith("refused") else "")
            self.assertEqual(replies("\n".join(lines)), right)
        self.assertEqual(refused, {"", *["refused " + kind.__name__ for kind in REFUSED]})
        self.assertEqual(len({word for word, no in told if not no}), 29)
        free = {"names", "holding", "can", "text", "bad", "lots", "keeps", "blamed"}
        self.assertEqual({word for word, no in told if not no} - {word for word, no in told if no}, free)

    def test_mills(self):
        for mill in (MILL, WRONG, SQUARE, EDGES, EMPTY):
            told = replies("mill " + mill_text(mill) + "\ntext\ncan")
            self.assertEqual(told, ["done", mill_text(mill), "yes" if rings.can_be_kept(mill) else "no"])


if __name__ == "__main__":
    unittest.main()
