"""Schemas: tables, their columns, and the truths of their checks."""

from bulkload.basics import are_different, is_title
from bulkload.checks import compared, opposite, side_value, together
from bulkload.errors import BadSchema, NoTable
from bulkload.rules import named_in_tallies, rule_among, rule_within

MOST_TABLES = 12
MOST_COLUMNS = 16


class Column:
    """A column of a table."""

    def __init__(self, title, kind, *, nullable=False, default=None):
        self.title = title
        self.kind = kind
        self.nullable = nullable
        self.default = default


class Table:
    """A table of a schema."""

    def __init__(self, title, columns, key, *, uniques=(), references=(), checks=(), tallies=()):
        self.title = title
        self.columns = columns
        self.key = key
        self.uniques = uniques
        self.references = references
        self.checks = checks
        self.tallies = tallies


def is_column(value):
    """Whether a value of any sort is a Column with a title."""
    return isinstance(value, Column) and is_title(value.title)


def are_columns(value):
    """Whether a value of any sort is a tuple of 1 to 16 Columns with different titles."""
    if not isinstance(value, tuple) or not 1 <= len(value) <= MOST_COLUMNS:
        return False
    return all([is_column(column) for column in value]) and are_different([column.title for column in value])


def rule_alone(value, before):
    """The first rule that a table breaks behind those with these titles, whatever stands behind it, or None."""
    if not isinstance(value, Table):
        return "table"
    if not is_title(value.title) or value.title in before:
        return "title"
    if not are_columns(value.columns):
        return "columns"
    return rule_within(value)


def check_tables(tables):
    """Raises BadSchema for what are no tables of a schema."""
    if not isinstance(tables, tuple) or not 1 <= len(tables) <= MOST_TABLES:
        raise BadSchema(None, "table")
    right = {}
    for place in range(len(tables)):
        rule = rule_alone(tables[place], right)
        if rule is not None:
            raise BadSchema(place, rule)
        right[tables[place].title] = tables[place]
    for place in range(len(tables)):
        rule = rule_among(tables[place], right)
        if rule is not None:
            raise BadSchema(place, rule)


class Schema:
    """Tables and what rows they accept."""

    def __init__(self, tables):
        check_tables(tables)
        self._tables = {table.title: table for table in tables}

    def __contains__(self, title):
        return isinstance(title, str) and title in self._tables

    @property
    def titles(self):
        """The titles of the tables, in order."""
        return tuple(self._tables)

    def table_of(self, place):
        """The table with this title."""
        if not isinstance(place, str) or place not in self._tables:
            raise NoTable(place)
        return self._tables[place]

    def tally_titles(self):
        """The titles of the tally tables, in order."""
        named = named_in_tallies(self._tables)
        return tuple([title for title in self._tables if title in named])


def truth(condition, row):
    """The truth of a condition of a check, None for unknown; row is a dict from column titles to values."""
    word = condition[0]
    if word == "missing":
        return side_value(condition[1], row) is None
    if word == "not":
        return opposite(truth(condition[1], row))
    if word == "both":
        return together(truth(condition[1], row), truth(condition[2], row))
    if word == "either":
        # One of two holds unless both are false together.
        return opposite(together(opposite(truth(condition[1], row)), opposite(truth(condition[2], row))))
    return compared(word, side_value(condition[1], row), side_value(condition[2], row))
