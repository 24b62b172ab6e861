"""How the records of a unit are handled in one run, and what the end references say behind them."""

from bulkload.holdings import values_at
from bulkload.rules import is_sequence
from bulkload.schemas import truth
from bulkload.values import is_of_kind

WORDS_BY_RULES = {"replace": "replaced", "merge": "merged", "change": "changed"}


def new_row(holdings, record, old):
    """The row that a record makes, the numbers that sequences give for it, and None; or None, {} and a reason."""
    numbers = {}
    row = []
    columns = record.route.table.columns
    for at in range(len(columns)):
        column = columns[at]
        value = record.given.get(column.title)
        if value is None and old is not None and record.route.rule != "replace":
            value = old[at]
        elif value is None and is_sequence(column.default):
            sequence = column.default[1]
            value = numbers.get(sequence, holdings.contents.number_of(sequence)) + 1
            if not is_of_kind(column.kind, value):
                return (None, {}, ("value", column.title, "range"))
            numbers[sequence] = value
        elif value is None:
            value = column.default
        row.append(value)
    return (tuple(row), numbers, None)


def fault_within(table, row):
    """The reason for which a table does not accept a row by itself, or None."""
    known = {}
    for column, value in zip(table.columns, row):
        if value is None and not column.nullable:
            return ("missing", column.title)
        known[column.title] = value
    for title, condition in table.checks:
        if truth(condition, known) is False:
            return ("check", title)
    return None


def key_referred(shape, index, row):
    """The key to which a row refers by a reference, or None."""
    return values_at(row, shape.references[index])


class Run:
    """A run of a unit: who gave the columns of rows their values last, and who loaded rows."""

    def __init__(self, holdings):
        self.holdings = holdings
        self.givers = {}
        self.makers = {}

    def handle(self, record):
        """The word for what a record does, and the reason and what stands in the way if it is rejected."""
        if record.reason is not None:
            return ("rejected", record.reason, None)
        if record.route is None:
            return ("discarded", None, None)
        old = self.holdings.row_of(record.place, record.key)
        rule = record.route.rule
        if old is None and rule in ("change", "remove"):
            return ("rejected", ("absent",), None)
        if old is not None and rule == "insert":
            return ("rejected", ("key",), self.makers.get((record.place, record.key), 0))
        if old is not None and rule == "skip":
            return ("skipped", None, None)
        if rule == "remove":
            return self.remove_row(record, old)
        return self.put_row(record, old)

    def put_row(self, record, old):
        """Puts the row that a record makes, if nothing is at fault; as handle."""
        row, numbers, reason = new_row(self.holdings, record, old)
        if reason is not None:
            return ("rejected", reason, None)
        reason, way = self.fault_of(record, old, row)
        if reason is not None:
            return ("rejected", reason, way)
        for sequence in numbers:
            self.holdings.change(self.holdings.contents.numbers, sequence, numbers[sequence])
        self.holdings.put(record.place, record.key, row)
        word = "loaded" if old is None else WORDS_BY_RULES[record.route.rule]
        self.note(record, word)
        return (word, None, None)

    def note(self, record, word):
        """Notes which columns of a row a record gave a value, and whether it loaded the row."""
        at = (record.place, record.key)
        if word == "loaded":
            self.makers[at] = record.number
        titles = list(record.given)
        if word in ("loaded", "replaced"):
            titles = [column.title for column in record.route.table.columns]
        givers = self.givers.setdefault(at, {})
        for title in titles:
            givers[title] = record.number

    def last_giver(self, place, key, titles):
        """The number of the record that last gave one of the columns of a row a value in this run, or 0."""
        givers = self.givers.get((place, key), {})
        return max([0] + [givers.get(title, 0) for title in titles])

    def fault_of(self, record, old, row):
        """The reason for which a new row is refused and what stands in its way; None and None if it counts now."""
        table = record.route.table
        reason = fault_within(table, row)
        if reason is None:
            reason = self.fault_in_references(record, row)
        if reason is not None:
            return (reason, None)
        for index in range(len(table.uniques)):
            other = self.other_with(record, index, row)
            if other is not None:
                return (("unique", index), self.last_giver(record.place, other, table.uniques[index]))
        index = self.holdings.count_anew(record.place, old, row)
        return (None if index is None else ("tally", index), None)

    def is_there(self, record, place, key):
        """Whether there is a row with this key when the row of a record is there."""
        return (place, key) == (record.place, record.key) or self.holdings.row_of(place, key) is not None

    def fault_in_references(self, record, row):
        """The reason for which a new row is refused by references with "now", or None."""
        references = record.route.table.references
        for index in range(len(references)):
            _, place, moment = references[index]
            key = key_referred(self.holdings.shapes[record.place], index, row)
            if moment == "now" and key is not None and not self.is_there(record, place, key):
                return ("reference", index, key)
        return None

    def other_with(self, record, index, row):
        """The key of another row that shares a unique with a new row, or None."""
        found = values_at(row, self.holdings.shapes[record.place].uniques[index])
        key = None if found is None else self.holdings.sharing[record.place][index].get(found)
        return None if key == record.key else key

    def remove_row(self, record, old):
        """Takes a row away, if nothing is at fault; as handle."""
        reason = self.fault_in_referring(record, old)
        if reason is not None:
            return ("rejected", reason, None)
        index = self.holdings.count_anew(record.place, old, None)
        if index is not None:
            return ("rejected", ("tally", index), None)
        self.holdings.put(record.place, record.key, None)
        return ("removed", None, None)

    def fault_in_referring(self, record, old):
        """The reason for which a row stays, as another one refers to it, or None."""
        for title, shape in self.holdings.shapes.items():
            for index in range(len(shape.references)):
                if shape.table.references[index][1] == record.place:
                    many = self.holdings.referring[title][index].get(record.key, 0)
                    if title == record.place and key_referred(shape, index, old) == record.key:
                        many -= 1
                    if many > 0:
                        return ("referred", title, index)
        return None

    def ends(self):
        """A dict from the numbers of the records that are rejected by references with "end" to the reasons."""
        found = {}
        for place, key in self.givers:
            row = self.holdings.row_of(place, key)
            references = self.holdings.shapes[place].table.references
            for index in range(len(references)):
                titles, other, moment = references[index]
                referred = key_referred(self.holdings.shapes[place], index, row)
                giver = self.last_giver(place, key, titles)
                is_lost = referred is not None and self.holdings.row_of(other, referred) is None
                if moment == "end" and is_lost and giver > 0:
                    found.setdefault(giver, ("reference", index, referred))
        return found
