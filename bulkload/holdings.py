"""Contents of a database with what is looked up in them, and changes of them that can be undone."""


def places_in(table, titles):
    """Where in a row of the table the columns with these titles stand."""
    known = [column.title for column in table.columns]
    return [known.index(title) for title in titles]


def values_at(row, places):
    """The values of a row at these places, or None if one of them is missing."""
    found = tuple([row[at] for at in places])
    return None if None in found else found


class Tally:
    """A tally, and where in the rows of both tables its columns stand."""

    def __init__(self, schema, table, tally):
        title, titles, amount, total = tally
        self.table = schema.table_of(title)
        self.places = places_in(table, titles)
        self.amount = None if amount is None else places_in(table, (amount,))[0]
        self.total = places_in(self.table, (total,))[0]
        self.kind = self.table.columns[self.total].kind

    def amount_in(self, row):
        """What a row adds to the total."""
        if self.amount is None:
            return 1
        amount = row[self.amount]
        return 0 if amount is None else amount

    def row_without_totals(self, key):
        """The row of the tally table for a key, with totals of 0."""
        known = dict(zip(self.table.key, key))
        return tuple([known.get(column.title, 0) for column in self.table.columns])

    def is_outside(self, row):
        """Whether the total in a row of the tally table is none of its kind."""
        return not self.kind[1] <= row[self.total] <= self.kind[2]


class Shape:
    """A table, and where in its rows the columns stand that its rules name."""

    def __init__(self, schema, table):
        self.table = table
        self.uniques = [places_in(table, titles) for titles in table.uniques]
        self.references = [places_in(table, reference[0]) for reference in table.references]
        self.tallies = [Tally(schema, table, tally) for tally in table.tallies]


class Holdings:
    """Contents, with the rows that share uniques, the rows that refer to keys, and those that count for totals.

    Every change stands in a list with what was there before, so that it can be undone. touched has the
    rows that were put or taken away since the last time that changes were kept, as they were then.
    """

    def __init__(self, schema, contents):
        self.contents = contents
        self.shapes = {title: Shape(schema, schema.table_of(title)) for title in schema.titles}
        self.sharing = {}
        self.referring = {}
        self.counting = {title: {} for title in schema.tally_titles()}
        self.changes = []
        self.touched = {}
        for title, shape in self.shapes.items():
            self.sharing[title] = [{} for _ in shape.uniques]
            self.referring[title] = [{} for _ in shape.references]
        for title in self.shapes:
            self.enter_all(title)
        self.keep()

    def enter_all(self, title):
        """Enters the rows of a table that are there; the totals are right already."""
        for key, row in list(self.contents.tables[title].items()):
            self.enter(title, key, row)
            for tally in self.shapes[title].tallies:
                counted = values_at(row, tally.places)
                if counted is not None:
                    self.count_key(tally, counted, 1)

    def change(self, place, key, value):
        """Gives a key of a dict another value, or none if it is None."""
        self.changes.append((place, key, place.get(key)))
        if value is None:
            place.pop(key, None)
        else:
            place[key] = value

    def undo(self, mark):
        """Undoes all changes but the first ones, as many as mark tells."""
        while len(self.changes) > mark:
            place, key, value = self.changes.pop()
            if value is None:
                place.pop(key, None)
            else:
                place[key] = value

    def undo_all(self):
        """Undoes all changes since the last time that they were kept."""
        self.undo(0)
        self.touched = {}

    def keep(self):
        """Keeps all changes: they cannot be undone any more."""
        self.changes = []
        self.touched = {}

    def row_of(self, title, key):
        """The row with this key in a table, or None."""
        return self.contents.row_of(title, key)

    def enter(self, title, key, row):
        """Enters a row where uniques and references are looked up."""
        shape = self.shapes[title]
        for places, sharing in zip(shape.uniques, self.sharing[title]):
            found = values_at(row, places)
            if found is not None:
                self.change(sharing, found, key)
        for places, referring in zip(shape.references, self.referring[title]):
            found = values_at(row, places)
            if found is not None:
                self.change(referring, found, referring.get(found, 0) + 1)

    def leave(self, title, row):
        """Takes a row from where uniques and references are looked up."""
        shape = self.shapes[title]
        for places, sharing in zip(shape.uniques, self.sharing[title]):
            found = values_at(row, places)
            if found is not None:
                self.change(sharing, found, None)
        for places, referring in zip(shape.references, self.referring[title]):
            found = values_at(row, places)
            if found is not None:
                many = referring[found] - 1
                self.change(referring, found, many if many > 0 else None)

    def put(self, title, key, row):
        """Puts a row in the place of the one with this key, or takes that one away; the totals stay."""
        rows = self.contents.tables[title]
        old = rows.get(key)
        if (title, key) not in self.touched:
            self.touched[(title, key)] = old
        if old is not None:
            self.leave(title, old)
        if row is not None:
            self.enter(title, key, row)
        self.change(rows, key, row)

    def count_key(self, tally, key, sign):
        """Counts a row more, or less, for a key of a tally table; returns how many count there now."""
        counting = self.counting[tally.table.title]
        many = counting.get(key, 0) + sign
        self.change(counting, key, many if many > 0 else None)
        return many

    def add_up(self, title, row, sign):
        """Adds a row of a table to all totals for which it counts, or (the sign is -1) takes it from them."""
        for tally in self.shapes[title].tallies:
            key = values_at(row, tally.places)
            if key is not None:
                many = self.count_key(tally, key, sign)
                totals = self.contents.tables[tally.table.title]
                old = totals.get(key, tally.row_without_totals(key))
                amount = old[tally.total] + sign * tally.amount_in(row)
                new = old[:tally.total] + (amount,) + old[tally.total + 1:]
                self.change(totals, key, new if many > 0 else None)

    def wrong_total(self, title, rows):
        """The index of the first tally of a table whose total for one of its rows is none of its kind, or None."""
        tallies = self.shapes[title].tallies
        for index in range(len(tallies)):
            for row in rows:
                key = values_at(row, tallies[index].places)
                total = None if key is None else self.row_of(tallies[index].table.title, key)
                if total is not None and tallies[index].is_outside(total):
                    return index
        return None

    def count_anew(self, title, old, new):
        """Lets a row (or None) count in all tallies in the place of an old one (or None).

        If a total is wrong then, nothing is changed, and the index of the first such tally is returned.
        """
        mark = len(self.changes)
        if old is not None:
            self.add_up(title, old, -1)
        if new is not None:
            self.add_up(title, new, 1)
        index = self.wrong_total(title, [row for row in (new, old) if row is not None])
        if index is not None:
            self.undo(mark)
        return index
