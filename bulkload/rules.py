"""What schemas ask of a table whose title and columns are right, and of tables beside one another."""

from bulkload.basics import are_different, is_title
from bulkload.checks import is_check_condition
from bulkload.parts import has_word
from bulkload.values import are_alike, is_kind, is_value


def columns_of(table):
    """A dict from the titles of the columns to the columns."""
    return {column.title: column for column in table.columns}


def is_sequence(value):
    """Whether a value of any sort is ("next", title)."""
    return has_word(value) and len(value) == 2 and value[0] == "next" and is_title(value[1])


def is_default(column):
    """Whether the default of a column is right beside its kind."""
    if column.default is None or is_value(column.kind, column.default):
        return True
    return column.kind[0] == "int" and is_sequence(column.default)


def without_sequences(columns):
    """Those of a dict of columns that have no sequence as their default."""
    return {title: columns[title] for title in columns if not is_sequence(columns[title].default)}


def is_one_of(value, columns):
    """Whether a value of any sort is the title of one of the columns."""
    return isinstance(value, str) and value in columns


def are_titles(value, columns):
    """Whether a value of any sort is a tuple of one or more different titles of the columns."""
    if not isinstance(value, tuple) or len(value) == 0:
        return False
    return all([is_one_of(title, columns) for title in value]) and are_different(value)


def is_key(value, columns):
    if not are_titles(value, columns):
        return False
    return all([not columns[title].nullable and columns[title].default is None for title in value])


def is_reference(value, columns):
    """Whether a value of any sort has the form of a reference from these columns."""
    if not isinstance(value, tuple) or len(value) != 3:
        return False
    titles, place, moment = value
    if not are_titles(titles, columns) or not is_title(place):
        return False
    return isinstance(moment, str) and moment in ("now", "end")


def is_check(value, columns):
    if not isinstance(value, tuple) or len(value) != 2:
        return False
    return is_title(value[0]) and is_check_condition(value[1], columns)


def is_tally(value, columns):
    """Whether a value of any sort has the form of a tally of a table with these columns."""
    if not isinstance(value, tuple) or len(value) != 4:
        return False
    place, titles, amount, total = value
    if not is_title(place) or not are_titles(titles, columns) or not is_title(total):
        return False
    return amount is None or is_one_of(amount, columns) and columns[amount].kind[0] == "int"


def are_all(values, is_right, columns):
    """Whether a value of any sort is a tuple whose elements are all right with these columns."""
    return isinstance(values, tuple) and all([is_right(value, columns) for value in values])


def rule_within(table):
    """The first rule that a table with right columns breaks, whatever the other tables are, or None."""
    if not all([is_kind(column.kind) for column in table.columns]):
        return "kind"
    if not all([isinstance(column.nullable, bool) for column in table.columns]):
        return "nullable"
    if not all([is_default(column) for column in table.columns]):
        return "default"
    columns = columns_of(table)
    if not is_key(table.key, columns):
        return "key"
    plain = without_sequences(columns)
    if not are_all(table.uniques, are_titles, plain):
        return "uniques"
    if not are_all(table.references, is_reference, plain):
        return "references"
    if not are_all(table.checks, is_check, plain):
        return "checks"
    if not are_all(table.tallies, is_tally, plain):
        return "tallies"
    return None


def named_in_tallies(tables):
    """The titles that are named in the tallies of tables, as often as they stand there; tables is a dict."""
    return [tally[0] for table in tables.values() for tally in table.tallies]


def kinds_of(table, titles):
    """The kinds of the columns with these titles."""
    columns = columns_of(table)
    return [columns[title].kind for title in titles]


def are_all_alike(kinds, others):
    return len(kinds) == len(others) and all([are_alike(kind, other) for kind, other in zip(kinds, others)])


def leads_right(reference, table, tables):
    """Whether a reference of a table leads to the key of a table that is no tally table."""
    titles, place, _ = reference
    if place not in tables or place in named_in_tallies(tables):
        return False
    other = tables[place]
    return are_all_alike(kinds_of(table, titles), kinds_of(other, other.key))


def counts_right(tally, table, tables):
    """Whether a tally of a table has the key and a column for totals in the table that it names."""
    place, titles, _, total = tally
    if place not in tables:
        return False
    other = tables[place]
    if total not in columns_of(other) or total in other.key:
        return False
    return kinds_of(table, titles) == kinds_of(other, other.key)


def is_total(column, totals):
    """Whether a column can be the total of tallies, and is that of one."""
    if column.kind[0] != "int" or not column.kind[1] <= 0 <= column.kind[2]:
        return False
    return not column.nullable and column.default is None and column.title in totals


def is_tally_table(table, tables):
    """Whether a table that is named in tallies is as such a table should be."""
    if len(table.uniques) + len(table.references) + len(table.checks) + len(table.tallies) > 0:
        return False
    totals = [tally[3] for other in tables.values() for tally in other.tallies if tally[0] == table.title]
    return all([is_total(column, totals) for column in table.columns if column.title not in table.key])


def rule_among(table, tables):
    """The first rule that a table breaks beside the others, or None; tables is a dict of all by their titles."""
    if not all([leads_right(reference, table, tables) for reference in table.references]):
        return "reference"
    if not all([counts_right(tally, table, tables) for tally in table.tallies]):
        return "tally"
    if table.title in named_in_tallies(tables) and not is_tally_table(table, tables):
        return "total"
    return None
