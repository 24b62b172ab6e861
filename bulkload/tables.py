"""Databases, and snapshots that show them as they were."""

from bulkload.contents import Contents, key_in


class Database:
    """Rows for the tables of a schema; without rows at first."""

    def __init__(self, schema):
        self._schema = schema
        self._contents = Contents(schema.titles)

    @property
    def schema(self):
        return self._schema

    @property
    def version(self):
        """How many units were handled."""
        return self._contents.handled

    def rows(self, place):
        """A new list of the rows of a table, in the order of their keys."""
        return self._contents.rows_of(self._schema.table_of(place).title)

    def row(self, place, key):
        """The row with this key in a table, or None."""
        return self._contents.row_of(self._schema.table_of(place).title, key)

    def key_of(self, place, row):
        """The key of a row of a table."""
        return key_in(self._schema.table_of(place), row)

    def last_number(self, sequence):
        """The number that a sequence gave last, 0 if it gave none."""
        return self._contents.number_of(sequence)

    def snapshot(self):
        """A Snapshot of what is here now."""
        return Snapshot(self._schema, self._contents.copied())


class Snapshot:
    """A database as it was when this was taken; Database.snapshot makes it of contents that nobody changes."""

    def __init__(self, schema, contents):
        self._schema = schema
        self._contents = contents

    @property
    def schema(self):
        return self._schema

    @property
    def version(self):
        """How many units were handled."""
        return self._contents.handled

    def rows(self, place):
        """A new list of the rows of a table, in the order of their keys."""
        return self._contents.rows_of(self._schema.table_of(place).title)

    def row(self, place, key):
        """The row with this key in a table, or None."""
        return self._contents.row_of(self._schema.table_of(place).title, key)

    def key_of(self, place, row):
        """The key of a row of a table."""
        return key_in(self._schema.table_of(place), row)

    def last_number(self, sequence):
        """The number that a sequence gave last, 0 if it gave none."""
        return self._contents.number_of(sequence)


def contents_of(database):
    """The contents of a Database or a Snapshot, not copied."""
    return database._contents


def database_with(schema, contents):
    """A Database with these contents, which nothing else changes."""
    database = Database(schema)
    database._contents = contents
    return database
