"""What section 6 says of schemas, read rule by rule; the tests hold the program against it."""

from bulkload.schemas import Column, Table
from bulkload.values import are_alike, is_kind, is_value

SMALL = "abcdefghijklmnopqrstuvwxyz"


def is_title(value):
    return isinstance(value, str) and 1 <= len(value) <= 20 and value[0] in SMALL and all(
        sign in SMALL + "0123456789_" for sign in value)


def is_tuple(value, many):
    return isinstance(value, tuple) and len(value) == many


def titled(table, title):
    """The column of a table with this title, or None."""
    for column in table.columns:
        if isinstance(title, str) and column.title == title:
            return column
    return None


def has_table(table, before):
    return isinstance(table, Table)


def has_title(table, before):
    return is_title(table.title) and table.title not in [other.title for other in before]


def has_columns(table, before):
    columns = table.columns
    if not isinstance(columns, tuple) or not 1 <= len(columns) <= 16:
        return False
    if not all(isinstance(column, Column) and is_title(column.title) for column in columns):
        return False
    return len({column.title for column in columns}) == len(columns)


def has_kinds(table, before):
    return all(is_kind(column.kind) for column in table.columns)


def has_nullables(table, before):
    return all(column.nullable is True or column.nullable is False for column in table.columns)


def is_sequence(default):
    return is_tuple(default, 2) and isinstance(default[0], str) and default[0] == "next" and is_title(default[1])


def has_defaults(table, before):
    return all(column.default is None or is_value(column.kind, column.default)
               or column.kind[0] == "int" and is_sequence(column.default) for column in table.columns)


def are_columns(table, titles):
    """One or more different column titles."""
    if not isinstance(titles, tuple) or titles == () or not all(titled(table, title) for title in titles):
        return False
    return len(set(titles)) == len(titles)


def are_plain(table, titles):
    return are_columns(table, titles) and not any(is_sequence(titled(table, title).default) for title in titles)


def has_key(table, before):
    return are_columns(table, table.key) and all(
        titled(table, title).nullable is False and titled(table, title).default is None for title in table.key)


def has_uniques(table, before):
    return isinstance(table.uniques, tuple) and all(are_plain(table, titles) for titles in table.uniques)


def has_references(table, before):
    return isinstance(table.references, tuple) and all(
        is_tuple(reference, 3) and are_plain(table, reference[0]) and is_title(reference[1])
        and isinstance(reference[2], str) and reference[2] in ("now", "end") for reference in table.references)


def side_kind(table, side):
    """The kind of a side that is a column, without a sequence."""
    if not is_tuple(side, 2) or not isinstance(side[0], str) or side[0] != "column":
        return None
    return titled(table, side[1]).kind if are_plain(table, (side[1],)) else None


def is_compared(table, one, other):
    kinds = (side_kind(table, one), side_kind(table, other))
    if None not in kinds:
        return are_alike(*kinds)
    for side, kind in ((one, kinds[1]), (other, kinds[0])):
        if kind is not None:
            return is_tuple(side, 2) and isinstance(side[0], str) and side[0] == "value" and is_value(kind, side[1])
    return False


def condition_parts(table, condition, levels):
    """How many parts a condition has, or None for what is none, or has more levels."""
    if levels == 0 or not isinstance(condition, tuple) or not condition or not isinstance(condition[0], str):
        return None
    word, rest = condition[0], condition[1:]
    if word == "missing":
        return 1 if len(rest) == 1 and side_kind(table, rest[0]) is not None else None
    if word in ("less", "same"):
        return 1 if len(rest) == 2 and is_compared(table, *rest) else None
    if len(rest) != {"not": 1, "both": 2, "either": 2}.get(word):
        return None
    found = [condition_parts(table, inner, levels - 1) for inner in rest]
    return None if None in found else 1 + sum(found)


def has_checks(table, before):
    if not isinstance(table.checks, tuple):
        return False
    for check in table.checks:
        if not is_tuple(check, 2) or not is_title(check[0]):
            return False
        parts = condition_parts(table, check[1], 20)
        if parts is None or parts > 100:
            return False
    return True


def is_tally(table, tally):
    if not is_tuple(tally, 4) or not is_title(tally[0]) or not are_plain(table, tally[1]) or not is_title(tally[3]):
        return False
    return tally[2] is None or are_plain(table, (tally[2],)) and titled(table, tally[2]).kind[0] == "int"


def has_tallies(table, before):
    return isinstance(table.tallies, tuple) and all(is_tally(table, tally) for tally in table.tallies)


def tallies_to(tables, title):
    return [tally for table in tables for tally in table.tallies if tally[0] == title]


def places_of(tables, title):
    return [table for table in tables if table.title == title]


def refers_right(table, tables):
    for titles, place, _ in table.references:
        if place not in [other.title for other in tables] or tallies_to(tables, place):
            return False
        other, = places_of(tables, place)
        if len(titles) != len(other.key):
            return False
        for title, key in zip(titles, other.key):
            if not are_alike(titled(table, title).kind, titled(other, key).kind):
                return False
    return True


def tallies_right(table, tables):
    for place, titles, _, total in table.tallies:
        if place not in [other.title for other in tables]:
            return False
        other, = places_of(tables, place)
        if len(titles) != len(other.key) or titled(other, total) is None or total in other.key:
            return False
        for title, key in zip(titles, other.key):
            if titled(table, title).kind != titled(other, key).kind:
                return False
    return True


def totals_right(table, tables):
    tallies = tallies_to(tables, table.title)
    if not tallies:
        return True
    if table.uniques or table.references or table.checks or table.tallies:
        return False
    for column in table.columns:
        if column.title not in table.key:
            if column.kind[0] != "int" or not is_value(column.kind, 0) or column.nullable:
                return False
            if column.default is not None or column.title not in [tally[3] for tally in tallies]:
                return False
    return True


WITHIN = (("table", has_table), ("title", has_title), ("columns", has_columns), ("kind", has_kinds),
          ("nullable", has_nullables), ("default", has_defaults), ("key", has_key), ("uniques", has_uniques),
          ("references", has_references), ("checks", has_checks), ("tallies", has_tallies))
AMONG = (("reference", refers_right), ("tally", tallies_right), ("total", totals_right))


def fault_in(tables):
    """What BadSchema tells of the tables: (place, rule), or None for a schema."""
    if not isinstance(tables, tuple) or not 1 <= len(tables) <= 12:
        return (None, "table")
    for place, table in enumerate(tables):
        for rule, is_kept in WITHIN:
            if not is_kept(table, tables[:place]):
                return (place, rule)
    for place, table in enumerate(tables):
        for rule, is_kept in AMONG:
            if not is_kept(table, tables):
                return (place, rule)
    return None


def built(value):
    """A value in which ("Column", ..) and ("Table", ..) stand for objects."""
    if not isinstance(value, tuple):
        return value
    inner = tuple(built(part) for part in value)
    if not inner or not isinstance(inner[0], str):
        return inner
    if len(inner) == 5 and inner[0] == "Column":
        return Column(inner[1], inner[2], nullable=inner[3], default=inner[4])
    if len(inner) == 8 and inner[0] == "Table":
        return Table(*inner[1:4], uniques=inner[4], references=inner[5], checks=inner[6], tallies=inner[7])
    return inner
