import random
import unittest

from tests.case import Case
from tests.samples import BEGINS, EDGES, EMPTY, GREAT, MILL, SQUARE, WRONG, has_list, listed, mixed
from wheelmarks.errors import BadText
from wheelmarks.texts import (
    begins_from, begins_text, looks_from, looks_text, mill_from, mill_text, names_from, names_text, numbers_from,
    numbers_text, row_from, row_text, rule_from, rule_text, sayings_from, sayings_text,
)

LONG = 10 ** 399
MORE = (("d", "b", "c", 0, 2, 0), ("e", "", "c", -1, 4, 3), ("f", "c", "", GREAT, 0, GREAT), ("g", "a", "b", 5, 1))
KINDS = {
    "names": (names_text, names_from), "numbers": (numbers_text, numbers_from), "sayings": (sayings_text, sayings_from),
    "mill": (mill_text, mill_from), "begins": (begins_text, begins_from), "row": (row_text, row_from),
    "looks": (looks_text, looks_from), "rule": (rule_text, rule_from),
}
# What is written, and how.
WRITTEN = {
    "names": (
        ((), "-"), (("a",), "a"), (("",), "."), (("b", "", "a", "b", "", ""), "b . a b . ."),
        (("abcdefgh", "z"), "abcdefgh z"),
    ),
    "numbers": (
        ((), "-"), ((0,), "0"), ((3, -1, 0, 3), "3 -1 0 3"), ((GREAT, -GREAT), "1" + "0" * 40 + " -1" + "0" * 40),
        ((LONG, 1 - 10 * LONG), "1" + "0" * 399 + " -" + "9" * 400),
    ),
    "sayings": (
        ((), "-"), ((("p", "a", "", 3, 12),), "p a . 3 12"), ((("p", "", "p", -3, 0, 0),), "p . p -3 0 0"),
        ((("aa", "x", "y", 0, 1, 7), ("b", "y", "x", 0, 1)), "aa x y 0 1 7; b y x 0 1"),
    ),
    "mill": (
        (EMPTY, "- | -"), (((("a", 5, 5),), ()), "a 5 5 | -"),
        (((("a", 1, 1),), (("a", "", "a", -7, 0),)), "a 1 1 | a . a -7 0"),
        (MILL, "a 12 1; b 8 2; c 6 1 | p a b 3 12; q b c 2 4; r a c 5 6"),
    ),
    "begins": (((), "-"), ((("a", 3), ("b", -5)), "a 3; b -5"), ((("ab", 0), ("b", GREAT)), "ab 0; b 1" + "0" * 40)),
    "row": (
        ((), "-"), ((("p", 1),), "p"), ((("p", 1), ("q", -1), ("p", 1), ("r", 1)), "p -q p r"),
        ((("q", -1), ("q", -1)), "-q -q"),
    ),
    "looks": (
        ((), "-"), (((9, "a", True), (10, "b", False)), "9 a yes; 10 b no"), (((-4, "a", False),), "-4 a no"),
        (((-4, "a", False), (-4, "a", True), (-4, "b", False), (0, "a", True)), "-4 a no; -4 a yes; -4 b no; 0 a yes"),
    ),
    "rule": (
        ((("a", "b"), ("c",)), "a b > c"), (((), ("c",)), "- > c"), (((), ()), "- > -"), ((("a",), ("a",)), "a > a"),
    ),
}
# None of these is a text of its kind, each for a reason of its own.
NOT_WRITTEN = {
    "names": (
        "", " ", "a ", " a", "a  b", "- ", " -", "--", "- a", "a -", "a.", "..", ". .a", "-a", "A", "aB", "a1", "1",
        "0", "a,b", "a, b",
        "a; b", "a;b", "a\n", "\na", "a\tb", "a\nb", "abcdefghi", "a abcdefghi", "\u00e9", "a \u00e9", "\u0430",
        "a_b", "a > b", "a | b", "a\r",
        "{", "a { b", "a`", "a\x00", "'a'", "a\u00a0b", "aa bbbbbbbbb .",
    ),
    "numbers": (
        "", " ", "1 ", " 1", "1  2", "--", "- ", "- 1", "1 -", "-0", "0 -0", "00", "01", "-01", "+1", "+0", "1_0",
        "1,2", "1, 2", "1; 2", "1.0",
        ".", "1 .", "a", "1a", "0x1", "1e3", "1\n", "\n1", "1\t2", "1\n2", "--1", "-+1", "1-", "1-2", "\u0661",
        "1 \u00b2", "\uff11", "1" * 401,
        "-" + "1" * 401, "0" * 400, "1 2  3", "\u22121", "1\u00a02", "True", "none",
    ),
    "sayings": (
        "", " ", "p a b 3", "p a b 3 12 0 0", "p a b 3 12 ", " p a b 3 12", "p  a b 3 12", "p a b 3  12",
        "p a b 3 12;", "p a b 3 12; ", "; p a b 3 12",
        "p a b 3 12;q a b 3 12", "p a b 3 12 ;q a b 3 12", "p a b 3 12 ; q a b 3 12", "p a b 3 12;  q a b 3 12",
        "p a b 3 12; -", "-; p a b 3 12",
        "q a b 3 12; p a b 3 12", "p a b 3 12; p a b 3 12", "p a b 3 12; p b a 3 12 0", "p a a 3 12", "p . . 3 12",
        ". a b 3 12", "- a b 3 12",
        "p a - 3 12", "p a b +3 12", "p a b 03 12", "p a b -0 12", "p a b 3 012", "p a b 3 -12", "p a b 3 -1",
        "p a b 3 12 -1", "p a b 3 12 00",
        "p a b 3 12 +1", "p a b x 12", "p A b 3 12", "P a b 3 12", "p a b1 3 12", "ppppppppp a b 3 12",
        "p a b 3 12\n", "p a b 3 12, q a b 3 12",
        "p a b 3 12; q a b", "p, a, b, 3, 12", "--", "p a b 3 1.5", "p a ; 3 12", "p a b 3 " + "1" * 401,
    ),
    "mill": (
        "", " ", "-", "-|-", "- |-", "-| -", "-  | -", "- |  -", " - | -", "- | - ", "- | - | -", "| -", "- | ",
        " | ", " | -", "- / -", "-- | -", "a 5 5 |", "a 5 5",
        "a 5 | -", "a 5 5 5 | -", "a 0 0 | -", "a 0 1 | -", "a -5 1 | -", "a 5 0 | -", "a 5 -1 | -", "a 5 6 | -",
        "a 5 05 | -", "a +5 5 | -", "A 5 5 | -",
        ". 5 5 | -", "b 8 1; a 12 1 | -", "a 8 1; a 12 1 | -", "a 8 1; a 8 1 | -", "a 8 1;b 12 1 | -",
        "a 8 1 ; b 12 1 | -", "a 8 1; | -", "a 8 1; - | -",
        "- | p a . 3 12", "a 8 1 | p a b 3 12", "a 8 1; b 8 1 | p a b 3 12 0", "a 8 1; b 8 1 | p a a 3 12",
        "a 8 1; b 8 1 | p . . 3 12",
        "a 8 1; b 8 1 | q a b 3 12; p a b 3 12", "a 8 1; b 8 1 | p a b 3 12; p b a 3 12",
        "a 8 1; b 8 1 | p a b 3 -12", "a 8 1; b 8 1 | p a b 3",
        "a 8 1; b 8 1 | - ", "a 8 1; b 8 1 | p a c 3 12", "a 8 1\n | -", "a 8 1 | -\n", "a 8 1 | p a . 3 12;",
        "aaaaaaaaa 8 1 | -", "- | a 5 5",
    ),
    "begins": (
        "", " ", "a", "a ", "a 1 ", " a 1", "a  1", "a 1 1", "a 1;", "a 1; ", "; a 1", "a 1;b 2", "a 1 ;b 2",
        "a 1 ; b 2", "a 1;  b 2", "a 1; -", "-; a 1", "--", "- 1",
        "b 1; a 2", "a 1; a 2", "a 2; a 1", "a 1; a 1", "a 1; b 2; ab 3", ". 1", ". 0", "a -0", "a 01", "a +1",
        "a 1.0", "a x", "A 1", "a1 1", "1 a", "aaaaaaaaa 1",
        "a 1, b 2", "a,1", "a:1", "a 1\n", "\na 1", "a 1\nb 2", "a 1 b 2", "a " + "1" * 401, "a \u0661", "a -", "a .",
    ),
    "row": (
        "", " ", "p ", " p", "p  q", "- ", " -", "--", "- q", "p -", "p - q", "--q", "p --q", "-q-", "p-q", "q-", ".",
        "p .", "-.", "p; q", "p;q", "p, q", "p 1", "p -1",
        "1", "-1", "+p", "P", "-P", "p1", "p_q", "ppppppppp", "-ppppppppp", "p\n", "\np", "p\tq", "p\nq", "p > q",
        "p | q", "\u00e9", "-\u00e9", "\u2212q", "p\r", "(p 1)",
    ),
    "looks": (
        "", " ", "9", "9 a", "9 a yes ", " 9 a yes", "9  a yes", "9 a  yes", "9 a yes no", "9 a Yes", "9 a y",
        "9 a true", "9 a True", "9 a 1", "9 a", "a 9 yes",
        "9 . yes", "9 A yes", "9 a1 yes", "09 a yes", "+9 a yes", "-0 a yes", "9.0 a yes", "x a yes", "- a yes",
        "9 - yes", "9 a -", "9 a yes;", "9 a yes; ",
        "; 9 a yes", "9 a yes;10 b no", "9 a yes ;10 b no", "9 a yes ; 10 b no", "9 a yes;  10 b no", "9 a yes; -",
        "-; 9 a yes", "10 b no; 9 a yes",
        "9 b no; 9 a yes", "9 a yes; 9 a no", "9 a yes; 9 a yes", "9 a yes; -10 a no", "9 a yes\n",
        "9 a yes\n10 b no", "9 a yes, 10 b no", "--",
        "9 aaaaaaaaa yes", "1" * 401 + " a yes",
    ),
    "rule": (
        "", " ", "-", "a", "a b", ">", " > ", "a >", "> a", "a > ", " > a", "a>b", "a >b", "a> b", "a  > b", "a >  b",
        " a > b", "a > b ", "a > b > c", "- > - > -",
        "a > b >", "b a > c", "a a > c", "a > c b", "a > c c", ". > a", "a > .", "a . > b", "- - > a", "- a > b",
        "a > - b", "a > --", "a < b", "a >> b", "a | b", "a; b > c",
        "a, b > c", "A > b", "a > B", "a1 > b", "a > 1", "aaaaaaaaa > b", "a > b\n", "\na > b", "a\n> b", "a > b; c",
        "a  b > c", "-a > b", "a > \u00e9",
    ),
}


class Written(Case):
    def test_written_and_read(self):
        for kind, (writes, reads) in KINDS.items():
            for value, text in WRITTEN[kind]:
                for given in (value, listed(value), mixed(value)):
                    self.assertEqual(writes(given), text)
                back = reads(text)
                self.assertEqual(repr(back), repr(value))
                self.assertIs(has_list(back), False)

    def test_by_name(self):
        for kind, (writes, reads) in KINDS.items():
            value, text = WRITTEN[kind][-1]
            self.assertEqual(writes(**{kind: value}), text)
            self.assertEqual(reads(text=text), value)

    def test_great_mills(self):
        for mill in (MILL, WRONG, SQUARE, EDGES, EMPTY):
            self.assertEqual(mill_from(mill_text(mill)), mill)
            self.assertEqual(mill_from(mill_text(listed(mill))), mill)
            self.assertEqual(sayings_from(sayings_text(mill[1])), mill[1])
        self.assertEqual(sayings_from(sayings_text(MORE)), MORE)
        self.assertEqual(sayings_text(MORE[:2]), "d b c 0 2 0; e . c -1 4 3")
        wheels = tuple((first + second, 9, 5) for first in "abcdefgh" for second in "abcdefgh")
        many = (wheels, tuple((name, name, "", 0, 1) for name, _, _ in wheels))
        self.assertEqual(mill_from(mill_text(many)), many)
        self.assertEqual(begins_from(begins_text(BEGINS)), BEGINS)

    def test_pieces_ascend(self):
        self.assertEqual(sayings_text(MORE[::-1]), sayings_text(MORE))
        self.assertEqual(begins_text(BEGINS[::-1]), "a 0; b 3; c 5")

    def test_great_numbers(self):
        for number in (10 ** 64, 10 ** 64 - 1, 10 ** 128 + 7, 3 * 10 ** 200, LONG, 10 * LONG - 1):
            for sign in (1, -1):
                self.assertEqual(numbers_text((sign * number,)), str(sign * number))
                self.assertEqual(numbers_from(str(sign * number)), (sign * number,))
        # Python itself writes no number of so many digits.
        self.assertEqual(numbers_text((10 ** 5000, -(10 ** 5000))), "1" + "0" * 5000 + " -1" + "0" * 5000)


class NotWritten(Case):
    def test_bad_texts(self):
        for kind, (_, reads) in KINDS.items():
            self.assertGreaterEqual(len(NOT_WRITTEN[kind]), 40)
            for text in NOT_WRITTEN[kind]:
                with self.subTest(kind=kind, text=text):
                    self.raises(BadText, {}, reads, text)

    def test_texts_changed(self):
        """A text that can be read is the one that is written of it."""
        source = random.Random(191)
        read = 0
        for kind, (writes, reads) in KINDS.items():
            texts = [text for _, text in WRITTEN[kind]]
            for text in texts:
                for _ in range(400):
                    other = self.changed(source, text)
                    try:
                        value = reads(other)
                    except BadText:
                        continue
                    read += 1
                    self.assertEqual(writes(value), other)
        self.assertGreater(read, 500)

    def changed(self, source, text):
        """The text with one sign more, one less, one another, or two in each other's place."""
        at = source.randrange(len(text) + 1)
        sign = source.choice("ab.-; |>019yesno\n+")
        return source.choice((
            text[:at] + sign + text[at:], text[:at] + text[at + 1:], text[:at] + sign + text[at + 1:],
            text[:at] + text[at + 1:at + 2] + text[at:at + 1] + text[at + 2:],
        ))

    def test_a_blank_at_each_place(self):
        for kind, (_, reads) in KINDS.items():
            for _, text in WRITTEN[kind]:
                for at in range(len(text) + 1):
                    other = text[:at] + " " + text[at:]
                    # Only a blank within a NAME, or between digits, can leave something that is written so.
                    inside = text[max(at - 1, 0):at + 1].isalnum() and 0 < at < len(text)
                    if not inside:
                        self.raises(BadText, {}, reads, other)

    def test_texts_of_other_kinds(self):
        for kind, (_, reads) in KINDS.items():
            for other in KINDS:
                for _, text in WRITTEN[other]:
                    if kind in ("mill", "rule") and other != kind:
                        self.raises(BadText, {}, reads, text)


if __name__ == "__main__":
    unittest.main()
