"""Loads of texts into databases, and trials of them."""

from bulkload.basics import is_number
from bulkload.errors import NoRecord
from bulkload.holdings import Holdings
from bulkload.runs import play_units
from bulkload.tables import contents_of
from bulkload.taken import taken_in, without_target
from bulkload.units import WORDS, all_units


def counts_among(outcomes):
    """A dict from each word of outcomes to how many of these have it."""
    counts = {word: 0 for word in WORDS}
    for outcome in outcomes:
        counts[outcome[1]] += 1
    return counts


def reject_of(record, reason):
    """The reject of a record, told without the key of a reference."""
    told = reason[:2] if reason[0] == "reference" else reason
    return (record.number, record.line, told, record.text)


def rejects_among(outcomes, taken):
    """The rejects of outcomes; taken is a dict from numbers to records."""
    return tuple([reject_of(taken[outcome[0]], outcome[4]) for outcome in outcomes if outcome[1] == "rejected"])


def discard_of(record):
    return (record.number, record.line, record.text)


def discards_among(outcomes, taken):
    """The discards of outcomes; taken is a dict from numbers to records."""
    return tuple([discard_of(taken[outcome[0]]) for outcome in outcomes if outcome[1] == "discarded"])


class Result:
    """What a load of a text came to; load and trial make it."""

    def __init__(self, place_of_reference, units, play):
        taken = {record.number: record for unit in units for record in unit}
        self._places = place_of_reference
        self._outcomes = tuple(play.answers)
        self._at = {self._outcomes[at][0]: at for at in range(len(self._outcomes))}
        self._status = "done" if play.stop is None else "stopped"
        self._stopped = () if play.stop is None else play.stop
        self._counts = counts_among(self._outcomes)
        self._rejects = rejects_among(self._outcomes, taken)
        self._discards = discards_among(self._outcomes, taken)

    def __len__(self):
        return len(self._outcomes)

    @property
    def outcomes(self):
        """The outcomes of the records, in their order."""
        return self._outcomes

    @property
    def status(self):
        """Whether the load is "done" or was "stopped"."""
        return self._status

    @property
    def counts(self):
        """A new dict from each word to the number of outcomes that have it."""
        return dict(self._counts)

    @property
    def rejects(self):
        """The rejected records as tuples (number, line, reason, text)."""
        return self._rejects

    @property
    def discards(self):
        """The discarded records as tuples (number, line, text)."""
        return self._discards

    @property
    def stopped(self):
        """The outcomes of those for which the load was stopped in front of their unit."""
        return self._stopped

    def outcome(self, number):
        """The outcome of the record with this number."""
        if not is_number(number) or number not in self._at:
            raise NoRecord(number)
        return self._outcomes[self._at[number]]

    def table_referred(self, outcome):
        """The title of the table to which the reference leads for which a record was rejected, or None."""
        _, _, place, _, reason, _, _ = outcome
        if reason is None or reason[0] != "reference":
            return None
        return self._places[place][reason[1]]


def places_of_references(schema):
    """A dict from the titles of tables to the titles of the tables to which their references lead, in order."""
    return {title: [reference[1] for reference in schema.table_of(title).references] for title in schema.titles}


def load_units(schema, contents, job, units):
    """Loads units of records into contents, and returns the Result."""
    play = play_units(job, Holdings(schema, contents), units)
    return Result(places_of_references(schema), units, play)


def load(database, job, text):
    """Loads a text into a database, and returns the Result."""
    units = all_units(job, taken_in(database.schema, job, text))
    return load_units(database.schema, contents_of(database), job, units)


def units_without(units, without):
    """The same units, but no target takes the records with these numbers."""
    gone = {number: True for number in without if is_number(number)}
    return [[without_target(record) if record.number in gone else record for record in unit] for unit in units]


def trial(database, job, text, *, without=()):
    """The Result of a load in which records with some numbers are discarded; the database stays as it is."""
    units = all_units(job, taken_in(database.schema, job, text))
    contents = contents_of(database).copied()
    return load_units(database.schema, contents, job, units_without(units, without))
