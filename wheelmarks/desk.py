"""A desk: requests, one a line, and the replies to them, by a Board that is kept from line to line."""

from wheelmarks.board import Board
from wheelmarks.errors import (
    BadLine,
    BadText,
    NoSaying,
    NoSetting,
    NothingDone,
    NoWheel,
    NoWord,
    Twice,
    Unfit,
)
from wheelmarks.lean import needless_sayings, smaller_dial
from wheelmarks.meets import can_meet, surely_meet
from wheelmarks.mills import is_setting
from wheelmarks.rings import least_bad
from wheelmarks.rules import holds, silence
from wheelmarks.seen import first_sure, sure_at
from wheelmarks.settings import hinders, setting_with
from wheelmarks.sures import hang_together, sure_late
from wheelmarks.texts import (
    begins_from,
    begins_text,
    count_from,
    end_from,
    end_text,
    looks_from,
    mill_from,
    mill_text,
    name_from,
    names_text,
    need,
    number_from,
    number_text,
    numbers_text,
    pieces_text,
    row_text,
    rule_from,
    sayings_from,
    sayings_text,
    set_from,
)
from wheelmarks.wrong import blamed, blind_step

# For each request the kinds of what stands behind its word: all but the last one are single words.
DEEDS = {
    "put": ("name", "more"),
    "drop": ("name",),
    "say": ("saying",),
    "unsay": ("name",),
    "undo": (),
}
ASKED_OF_BOARD = {
    "names": (),
    "holding": (),
    "hangs": ("name",),
    "newly": ("saying",),
    "can": (),
    "holds": ("name",),
    "choice": ("name",),
    "text": (),
}
ASKED_OF_MILL = {
    "bad": (),
    "lots": (),
    "late": ("end", "end"),
    "keeps": ("begins",),
    "lay": ("begins",),
    "hinders": ("begins",),
    "meet": ("some",),
    "surely": ("some",),
    "rule": ("rule",),
    "silence": ("count", "some"),
    "needless": (),
    "dial": ("name",),
    "blamed": (),
    "blind": ("name",),
    "sure": ("name", "number", "looks"),
    "first": ("name", "number", "looks"),
}


def kinds_of(word):
    """The kinds of what stands behind the word of a request; raises BadText if it is none."""
    if word == "mill":
        return ("mill",)
    if word in DEEDS:
        return DEEDS[word]
    if word in ASKED_OF_BOARD:
        return ASKED_OF_BOARD[word]
    if word in ASKED_OF_MILL:
        return ASKED_OF_MILL[word]
    raise BadText()


def one_saying_from(text):
    """The SAYING of five parts that is written so, alone."""
    sayings = sayings_from(text)
    need(len(sayings) == 1 and len(sayings[0]) == 5)
    return sayings[0]


def read_as(kind, text):
    """What of this kind is written so; raises BadText if nothing is."""
    match kind:
        case "name":
            return name_from(text)
        case "end":
            return end_from(text)
        case "number":
            return number_from(text)
        case "count":
            return count_from(text)
        case "some":
            return set_from(text)
        case "saying":
            return one_saying_from(text)
        case "more":
            return sayings_from(text)
        case "mill":
            return mill_from(text)
        case "begins":
            return begins_from(text)
        case "rule":
            return rule_from(text)
        case "looks":
            return looks_from(text)


def read_line(line):
    """A pair of the word of a request and what stands behind it; raises BadText if the line is none."""
    parts = line.split(" ")
    kinds = kinds_of(parts[0])
    if kinds == ():
        need(len(parts) == 1)
        return (parts[0], ())
    need(len(parts) > len(kinds))
    # The last kind takes all words that are left.
    texts = parts[1:len(kinds)] + [" ".join(parts[len(kinds):])]
    return (parts[0], [read_as(kind, text) for kind, text in zip(kinds, texts)])


def read_all(text):
    """The requests of a text, one for each line; raises BadLine for the first line that is none."""
    if text == "":
        return []
    asked = []
    for number, line in enumerate(text.split("\n")):
        try:
            asked.append(read_line(line))
        except BadText:
            raise BadLine(number)
    return asked


def yes_or_no(so):
    return "yes" if so else "no"


def lots_text(lots):
    return pieces_text([[end_text(name) for name in lot] for lot in lots])


def row_or_none(row):
    return "none" if row is None else row_text(row)


def names_or_none(names):
    return "none" if names is None else names_text(names)


def number_or_none(number):
    return "none" if number is None else number_text(number)


def yes_no_or_maybe(so):
    return "maybe" if so is None else yes_or_no(so)


def do_deed(board, word, given):
    match word:
        case "put":
            board.put(*given)
        case "drop":
            board.drop(*given)
        case "say":
            board.say(*given)
        case "unsay":
            board.unsay(*given)
        case "undo":
            board.undo()
    return "done"


def told_of_board(board, word, given):
    match word:
        case "names":
            return names_text(board.names)
        case "holding":
            return names_text(board.holding())
        case "hangs":
            return names_text(board.hangs_on(*given))
        case "newly":
            return names_text(board.newly(*given))
        case "can":
            return yes_or_no(board.can_be_set())
        case "holds":
            return yes_or_no(board.holds(*given))
        case "choice":
            return sayings_text(board[given[0]])
        case "text":
            return mill_text(board.mill)


def told_of_mill(mill, word, given):
    match word:
        case "bad":
            return row_or_none(least_bad(mill))
        case "lots":
            return lots_text(hang_together(mill))
        case "late":
            return numbers_text(sure_late(mill, *given))
        case "keeps":
            return yes_or_no(is_setting(mill, *given))
        case "lay":
            return begins_text(setting_with(mill, *given))
        case "hinders":
            return names_or_none(hinders(mill, *given))
        case "meet":
            return yes_or_no(can_meet(mill, *given))
        case "surely":
            return yes_or_no(surely_meet(mill, *given))
        case "rule":
            ones, others = given[0]
            return yes_or_no(holds(mill, ones, others))
        case "silence":
            return number_text(silence(mill, given[1], given[0]))
        case "needless":
            return names_text(needless_sayings(mill))
        case "dial":
            return number_text(smaller_dial(mill, *given))
        case "blamed":
            return names_text(blamed(mill))
        case "blind":
            return number_text(blind_step(mill, *given))
        case "sure":
            return yes_no_or_maybe(sure_at(mill, given[2], given[0], given[1]))
        case "first":
            return number_or_none(first_sure(mill, given[2], given[0], given[1]))


def answer(board, word, given):
    if word in DEEDS:
        return do_deed(board, word, given)
    if word in ASKED_OF_BOARD:
        return told_of_board(board, word, given)
    return told_of_mill(board.mill, word, given)


def reply(board, word, given):
    """The answer to a request, or that it is refused."""
    try:
        return answer(board, word, given)
    except NoWheel:
        return "refused NoWheel"
    except NoSaying:
        return "refused NoSaying"
    except NoWord:
        return "refused NoWord"
    except NothingDone:
        return "refused NothingDone"
    except Twice:
        return "refused Twice"
    except NoSetting:
        return "refused NoSetting"
    except Unfit:
        return "refused Unfit"


def replies(text):
    """The list of the replies to the lines of a text."""
    board = Board(((), ()))
    told = []
    for word, given in read_all(text):
        if word == "mill":
            board = Board(given[0])
            told.append("done")
        else:
            told.append(reply(board, word, given))
    return told
