"""Texts: how names, numbers, MILLS and what is told of them are written, and read again."""

from wheelmarks.errors import BadText
from wheelmarks.mills import is_mill
from wheelmarks.values import ascends, is_name, tupled

NONE = "-"
CRANK = "."
PIECE = "; "
STROKE = " | "
THEN = " > "
DIGITS = "0123456789"
MOST_DIGITS = 400
# Python writes numbers of some thousand digits at the most, so greater ones are written in parts.
PART_DIGITS = 64
PART = 10 ** 64


def need(right):
    if not right:
        raise BadText()


def number_text(number):
    """The number in decimal digits, however great."""
    left = abs(number)
    parts = []
    while left >= PART:
        left, part = divmod(left, PART)
        parts.append(str(part).zfill(PART_DIGITS))
    parts.append(str(left))
    return ("-" if number < 0 else "") + "".join(parts[::-1])


def number_from(word):
    digits = word[1:] if word.startswith("-") else word
    need(1 <= len(digits) <= MOST_DIGITS and all([digit in DIGITS for digit in digits]))
    number = int(word)
    # A needless 0, and a sign at 0, are not written again.
    need(number_text(number) == word)
    return number


def count_from(word):
    number = number_from(word)
    need(number >= 0)
    return number


def name_from(word):
    need(is_name(word))
    return word


def end_text(name):
    return CRANK if name == "" else name


def end_from(word):
    return "" if word == CRANK else name_from(word)


def words_text(words):
    return " ".join(words) if words else NONE


def words_from(text):
    return [] if text == NONE else text.split(" ")


def pieces_text(rows):
    """The text of several pieces, each of these a list of its words."""
    return PIECE.join([" ".join(words) for words in rows]) if rows else NONE


def pieces_from(text):
    return [] if text == NONE else [piece.split(" ") for piece in text.split(PIECE)]


def two_from(text, mark):
    """The two texts that have this mark, and no other one, between them."""
    parts = text.split(mark)
    need(len(parts) == 2)
    return parts


def need_ascending(things):
    """These as a tuple, each above the one ahead of it."""
    need(ascends(things))
    return tuple(things)


def need_named(rows):
    """These as a tuple, each beginning with a NAME above that of the one ahead of it."""
    need(ascends([row[0] for row in rows]))
    return tuple(rows)


def names_text(names):
    """NAMES, the crank maybe among them, as a text."""
    return words_text([end_text(name) for name in names])


def names_from(text):
    """The NAMES, the crank maybe among them, that are written so."""
    return tuple([end_from(word) for word in words_from(text)])


def set_from(text):
    """The set of NAMES, without the crank, that is written so."""
    return need_ascending([name_from(word) for word in words_from(text)])


def numbers_text(numbers):
    """Numbers as a text."""
    return words_text([number_text(number) for number in numbers])


def numbers_from(text):
    """The numbers that are written so."""
    return tuple([number_from(word) for word in words_from(text)])


def saying_words(saying):
    name, one, other, *numbers = saying
    return [name, end_text(one), end_text(other), *[number_text(number) for number in numbers]]


def saying_from(words):
    need(5 <= len(words) <= 6)
    name, one, other, late, *counts = words
    need(one != other)
    ends = (name_from(name), end_from(one), end_from(other), number_from(late))
    return ends + tuple([count_from(word) for word in counts])


def sayings_text(sayings):
    """SAYINGS, with their rooms if they have some, as a text."""
    return pieces_text([saying_words(saying) for saying in sorted(tupled(sayings))])


def sayings_from(text):
    """The SAYINGS, maybe with rooms, that are written so."""
    return need_named([saying_from(words) for words in pieces_from(text)])


def wheel_from(words):
    need(len(words) == 3)
    return (name_from(words[0]), number_from(words[1]), number_from(words[2]))


def wheel_words(wheel):
    return [wheel[0], number_text(wheel[1]), number_text(wheel[2])]


def mill_text(mill):
    """A MILL as a text."""
    wheels, sayings = mill
    return pieces_text([wheel_words(wheel) for wheel in wheels]) + STROKE + sayings_text(sayings)


def mill_from(text):
    """The MILL that is written so."""
    first, second = two_from(text, STROKE)
    mill = (tuple([wheel_from(words) for words in pieces_from(first)]), sayings_from(second))
    need(is_mill(mill))
    return mill


def begins_text(begins):
    """BEGINS as a text."""
    return pieces_text([[name, number_text(begin)] for name, begin in sorted(tupled(begins))])


def begin_from(words):
    need(len(words) == 2)
    return (name_from(words[0]), number_from(words[1]))


def begins_from(text):
    """The BEGINS, of whatever WHEELS, that are written so."""
    return need_named([begin_from(words) for words in pieces_from(text)])


def row_text(row):
    """A WAY or a RING as a text."""
    return words_text([name if way == 1 else "-" + name for name, way in row])


def step_from(word):
    return (name_from(word[1:]), -1) if word.startswith("-") else (name_from(word), 1)


def row_from(text):
    """The tuple of pairs of a NAME and 1 or -1 that is written so."""
    return tuple([step_from(word) for word in words_from(text)])


def look_words(look):
    tick, wheel, showed = look
    return [number_text(tick), wheel, "yes" if showed else "no"]


def look_from(words):
    need(len(words) == 3 and words[2] in ("yes", "no"))
    return (number_from(words[0]), name_from(words[1]), words[2] == "yes")


def looks_text(looks):
    """LOOKS as a text."""
    return pieces_text([look_words(look) for look in looks])


def looks_from(text):
    """The LOOKS, of whatever WHEELS, that are written so."""
    return need_ascending([look_from(words) for words in pieces_from(text)])


def rule_text(rule):
    """A RULE, or any pair of two sets of NAMES, as a text."""
    ones, others = rule
    return names_text(ones) + THEN + names_text(others)


def rule_from(text):
    """The pair of two sets of NAMES that is written so."""
    ones, others = two_from(text, THEN)
    return (set_from(ones), set_from(others))
