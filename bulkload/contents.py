"""What databases and snapshots hold."""


class Contents:
    """Rows by their keys for each table, the number each sequence gave last, and how many units were handled."""

    def __init__(self, titles):
        self.tables = {title: {} for title in titles}
        self.numbers = {}
        self.handled = 0

    def copied(self):
        """Contents of their own with the same rows and numbers."""
        other = Contents(list(self.tables))
        other.tables = {title: {key: rows[key] for key in rows} for title, rows in self.tables.items()}
        other.numbers = dict(self.numbers)
        other.handled = self.handled
        return other

    def count_unit(self):
        """Counts one more unit that was handled."""
        self.handled += 1

    def rows_of(self, title):
        """A new list of the rows of a table, in the order of their keys."""
        rows = self.tables[title]
        return [rows[key] for key in sorted(rows)]

    def row_of(self, title, key):
        """The row with this key in a table, or None."""
        return self.tables[title].get(key)

    def number_of(self, sequence):
        """The number that a sequence gave last, 0 at first."""
        return self.numbers.get(sequence, 0)


def key_in(table, row):
    """The key of a row of a table."""
    titles = [column.title for column in table.columns]
    return tuple([row[titles.index(title)] for title in table.key])
