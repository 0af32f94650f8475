"""SHEETS: what readers are told who each have some SAYINGS, alone and together."""

from wheelmarks.errors import NoReader, Unfit
from wheelmarks.lates import need_table, sure_table
from wheelmarks.lots import all_lots, fewest_lot, greatest_lots_of, least_lots, pairs_among
from wheelmarks.sures import is_unlike, need_ends, unlike_settings
from wheelmarks.values import (
    ascends,
    end_names,
    is_multiple,
    is_name,
    is_row,
    is_set_of,
    just_these,
    saying_called,
    saying_names,
    tupled,
)


def is_sheets(mill, thing):
    """Whether thing are SHEETS of the MILL, of however many readers."""
    if not isinstance(thing, tuple) or not all([is_row(sheet, 2) for sheet in thing]):
        return False
    names = saying_names(mill)
    if not all([is_name(reader) and is_set_of(some, names) for reader, some in thing]):
        return False
    return ascends([reader for reader, _ in thing])


def reader_names(sheets):
    return [reader for reader, _ in sheets]


def need_readers(sheets, readers):
    known = reader_names(sheets)
    for reader in readers:
        if reader not in known:
            raise NoReader(reader)


def put_together(mill, sheets, readers):
    """The MILL with just the SAYINGS on a SHEET of these readers."""
    need_readers(sheets, readers)
    names = [name for reader, some in sheets if reader in readers for name in some]
    wheels, sayings = just_these(tupled(mill), names)
    return (wheels, tuple(sayings))


def table_of(mill, sheets, readers):
    """What is sure by the SAYINGS on the SHEETS of these readers."""
    return sure_table(put_together(mill, sheets, readers))


def tables_of(mill, sheets):
    """For each lot of the readers what is sure by their SHEETS."""
    return [table_of(mill, sheets, readers) for readers in all_lots(reader_names(sheets))]


def need_told(mill, sheets, readers, one, other):
    """The MILL that these readers have; checks all that is handed in."""
    need_ends(mill, one, other)
    need_readers(sheets, readers)
    need_table(mill)
    return put_together(mill, sheets, readers)


def told(mill, sheets, readers, one, other):
    """The CLASS that these readers are told of the two."""
    return sure_table(need_told(mill, sheets, readers, one, other))[one, other]


def bands(mill, sheets, one, other, dial):
    """The set of the sets of readers who are told up to this dial, and no part of whom is."""
    need_told(mill, sheets, (), one, other)
    does = [is_multiple(table[one, other][1], dial) for table in tables_of(mill, sheets)]
    return tuple(least_lots(reader_names(sheets), does))


def paper_for(mill, sheets, readers, one, other, dial):
    """Two SETTINGS of what the readers have whose lates differ by no multiple of dial, None if there are none."""
    return unlike_settings(need_told(mill, sheets, readers, one, other), one, other, dial)


def is_paper_for(mill, sheets, readers, one, other, dial, thing):
    """Whether thing is two SETTINGS of what the readers have whose lates differ by no multiple of dial."""
    return is_unlike(need_told(mill, sheets, readers, one, other), one, other, dial, thing)


def need_unlike(one, other):
    if one == other:
        raise Unfit()


def gifts(mill, have, one, other):
    """The set of the greatest sets of other SAYINGS that, with those at hand, tell nothing of the two."""
    need_ends(mill, one, other)
    for name in have:
        saying_called(mill, name)
    need_table(mill)
    need_unlike(one, other)
    others = [name for name in saying_names(mill) if name not in have]
    tables = [sure_table(just_these(mill, [*have, *more])) for more in all_lots(others)]
    return tuple(greatest_lots_of(others, [table[one, other][1] == 1 for table in tables]))


def secret_kept(mill, sheets, one, other):
    """The set of the greatest sets of readers who are told nothing of the two."""
    need_told(mill, sheets, (), one, other)
    need_unlike(one, other)
    does = [table[one, other][1] == 1 for table in tables_of(mill, sheets)]
    return tuple(greatest_lots_of(reader_names(sheets), does))


def learned(mill, sheets, giver, taker):
    """What both readers together are told, where the taker alone is told less."""
    need_readers(sheets, [giver, taker])
    need_table(mill)
    alone, both = table_of(mill, sheets, [taker]), table_of(mill, sheets, [giver, taker])
    pairs = [pair for pair in pairs_among(end_names(mill)) if both[pair] != alone[pair]]
    return tuple([(one, other, *both[one, other]) for one, other in pairs])


def needless_sheets(mill, sheets):
    """The set of the readers without each of whom, that one alone, all others are told just as much."""
    need_table(mill)
    readers = reader_names(sheets)
    whole = table_of(mill, sheets, readers)
    return tuple([
        gone for gone in readers if table_of(mill, sheets, [reader for reader in readers if reader != gone]) == whole
    ])


def fewest_sheets(mill, sheets):
    """The least set of readers who are told just as much as all are."""
    need_table(mill)
    tables = tables_of(mill, sheets)
    return fewest_lot(least_lots(reader_names(sheets), [table == tables[-1] for table in tables]))
