"""A plain reading of sections 9 and 10 (and 14.3, 15.1), against which the program is held.

It is written apart from the program: rows are dicts, each run begins with a copy of all of them, and totals
are summed up anew whenever they are asked for. Only what stands in sections 3 to 6 is taken from the program.
"""

import copy

from bulkload.errors import Unfit
from bulkload.expressions import evaluate, holds
from bulkload.formats import records
from bulkload.schemas import truth
from bulkload.values import convert, is_value

ACTS = ("loaded", "replaced", "merged", "changed", "removed")


class State:
    """The rows of the tables that are no tally tables, the numbers of sequences, and the version."""

    def __init__(self, schema):
        self.schema = schema
        self.tables = {title: {} for title in schema.titles if title not in schema.tally_titles()}
        self.numbers = {}
        self.version = 0

    def rows(self, title):
        """The rows of any table as the interface tells them."""
        table = self.schema.table_of(title)
        found = self.tables[title] if title in self.tables else totals(self.schema, self.tables)[title]
        return [tuple(found[key][column.title] for column in table.columns) for key in sorted(found)]


def totals(schema, tables):
    """The rows of the tally tables: 6.4 to 6.6."""
    found = {title: {} for title in schema.tally_titles()}
    for title, rows in tables.items():
        for place, titles, amount, total in schema.table_of(title).tallies:
            table = schema.table_of(place)
            for row in rows.values():
                key = tuple(row[name] for name in titles)
                if None not in key:
                    fresh = {column.title: 0 for column in table.columns}
                    fresh.update(zip(table.key, key))
                    sums = found[place].setdefault(key, fresh)
                    sums[total] += 1 if amount is None else row[amount] or 0
    return found


class Record:
    def __init__(self, number, line, text):
        self.number, self.line, self.text = number, line, text
        self.target = self.place = self.key = self.fault = None
        self.values = {}


def read(schema, job, text):
    """The taken records with what 8.3 and 9.3 (a) to (c) say of them."""
    found = records(job.form, text)
    names = job.form.names
    if names is None:
        names = found.pop(0)[3]
    last = len(found) if job.at_most is None else job.skip_first + job.at_most
    taken = []
    for number, line, whole, fields, fault in found[job.skip_first:last]:
        record = Record(number, line, whole)
        taken.append(record)
        if fault is not None:
            record.fault = ("format", fault)
            continue
        for target in job.targets:
            if holds(target.condition, names, fields, number):
                record.target, record.place = target, target.place
                give(record, schema.table_of(target.place), names, fields)
                break
    return taken


def give(record, table, names, fields):
    named = dict(record.target.columns)
    for column in table.columns:
        record.values[column.title] = None
        if column.title in named:
            text = evaluate(named[column.title], names, fields, record.number)
            try:
                record.values[column.title] = None if text is None else convert(column.kind, text)
            except Unfit as unfit:
                record.values[column.title] = unfit
                record.fault = record.fault or ("value", column.title, unfit.cause)
    key = [record.values[title] for title in table.key]
    if not any(value is None or isinstance(value, Unfit) for value in key):
        record.key = tuple(key)
    for title in table.key:
        if record.values[title] is None:
            record.fault = record.fault or ("missing", title)


def cut(job, taken):
    """The units: 9.1."""
    units = []
    open_unit = []
    for record in taken:
        if record.target is not None and record.target.rule == "remove":
            units += [open_unit, [record]]
            open_unit = []
        else:
            open_unit.append(record)
            if len(open_unit) == job.size:
                units.append(open_unit)
                open_unit = []
    return [unit for unit in units + [open_unit] if unit]


class Run:
    """A run on a copy of the state: 9.3 to 9.5."""

    def __init__(self, state):
        self.schema = state.schema
        self.tables = copy.deepcopy(state.tables)
        self.numbers = dict(state.numbers)
        self.acts = []
        self.loads = []

    def giver(self, place, key, titles):
        """The record that last gave one of the columns of a row a value in this run, or 0."""
        given = [number for number, title, at, gave in self.acts
                 if (title, at) == (place, key) and set(gave) & set(titles)]
        return given[-1] if given else 0

    def maker(self, place, key):
        """The record that loaded the row with this key in this run, or 0."""
        return max([number for number, at in self.loads if at == (place, key)], default=0)

    def handle(self, record):
        """(word, reason, way)."""
        if record.fault is not None:
            return ("rejected", record.fault, None)
        if record.target is None:
            return ("discarded", None, None)
        rule = record.target.rule
        rows = self.tables[record.place]
        old = rows.get(record.key)
        if old is not None and rule == "insert":
            return ("rejected", ("key",), self.maker(record.place, record.key))
        if old is not None and rule == "skip":
            return ("skipped", None, None)
        if old is None and rule in ("change", "remove"):
            return ("rejected", ("absent",), None)
        before = (copy.deepcopy(self.tables), dict(self.numbers))
        told = self.take_away(record, old) if rule == "remove" else self.put(record, old)
        if told[0] == "rejected":
            self.tables, self.numbers = before
        return told

    def put(self, record, old):
        table = self.schema.table_of(record.place)
        rule = record.target.rule
        new = {}
        for column in table.columns:
            new[column.title] = record.values[column.title]
            if new[column.title] is None:
                if old is not None and rule in ("merge", "change"):
                    new[column.title] = old[column.title]
                elif isinstance(column.default, tuple):
                    number = self.numbers.get(column.default[1], 0) + 1
                    self.numbers[column.default[1]] = number
                    if not is_value(column.kind, number):
                        return ("rejected", ("value", column.title, "range"), None)
                    new[column.title] = number
                else:
                    new[column.title] = column.default
        reason, way = self.fault(table, record, old, new)
        if reason is not None:
            return ("rejected", reason, way)
        word = "loaded" if old is None else {"replace": "replaced", "merge": "merged", "change": "changed"}[rule]
        if word == "loaded":
            self.loads.append((record.number, (table.title, record.key)))
        gave = [title for title in new if word in ("loaded", "replaced") or record.values[title] is not None]
        self.acts.append((record.number, table.title, record.key, gave))
        return (word, None, None)

    def fault(self, table, record, old, new):
        for column in table.columns:
            if new[column.title] is None and not column.nullable:
                return (("missing", column.title), None)
        for title, condition in table.checks:
            if truth(condition, new) is False:
                return (("check", title), None)
        self.tables[table.title][record.key] = new
        for index, (titles, place, moment) in enumerate(table.references):
            key = tuple(new[title] for title in titles)
            if moment == "now" and None not in key and key not in self.tables[place]:
                return (("reference", index, key), None)
        for index, titles in enumerate(table.uniques):
            mine = [new[title] for title in titles]
            for key, row in self.tables[table.title].items():
                if key != record.key and None not in mine and mine == [row[title] for title in titles]:
                    return (("unique", index), self.giver(table.title, key, titles))
        return (self.wrong_total(table, [row for row in (old, new) if row is not None]), None)

    def wrong_total(self, table, rows):
        for index, (place, titles, _, total) in enumerate(table.tallies):
            kind = [column.kind for column in self.schema.table_of(place).columns if column.title == total][0]
            sums = totals(self.schema, self.tables)[place]
            for row in rows:
                key = tuple(row[title] for title in titles)
                if key in sums and not is_value(kind, sums[key][total]):
                    return ("tally", index)
        return None

    def take_away(self, record, old):
        table = self.schema.table_of(record.place)
        del self.tables[table.title][record.key]
        for title in self.schema.titles:
            for index, (titles, place, _) in enumerate(self.schema.table_of(title).references):
                if place == table.title:
                    for row in self.tables[title].values():
                        if tuple(row[name] for name in titles) == record.key:
                            return ("rejected", ("referred", title, index), None)
        reason = self.wrong_total(table, [old])
        return ("removed", None, None) if reason is None else ("rejected", reason, None)

    def ends(self):
        found = {}
        for _, place, key, _ in self.acts:
            row = self.tables[place][key]
            for index, (titles, other, moment) in enumerate(self.schema.table_of(place).references):
                referred = tuple(row[title] for title in titles)
                if moment == "end" and None not in referred and referred not in self.tables[other]:
                    giver = self.giver(place, key, titles)
                    if giver and (giver not in found or found[giver][1] > index):
                        found[giver] = ("reference", index, referred)
        return found


class Told:
    """What a plain load tells."""

    def __init__(self):
        self.outcomes, self.course, self.stopped, self.status = [], [], (), "done"
        self.units = []
        self.records = {}


def run_unit(state, unit):
    """The last run, the steps of all, and the outcomes as if the job were not strict: 9.2."""
    rejected = {}
    course = []
    while True:
        run = Run(state)
        words = {}
        steps = []
        for record in unit:
            if record.number not in rejected:
                word, reason, way = run.handle(record)
                words[record.number] = word
                steps.append((record.number, word, record.place, record.key, reason))
                if word == "rejected":
                    rejected[record.number] = (reason, len(course) + 1, way)
        ends = run.ends()
        rejected.update({number: (reason, len(course) + 1, None) for number, reason in ends.items()})
        course.append(tuple(step[:4] + (ends.get(step[0], step[4]),) for step in steps))
        if not ends:
            break
    outcomes = [(record.number, "rejected" if record.number in rejected else words[record.number], record.place,
                 record.key) + rejected.get(record.number, (None, None, None)) for record in unit]
    return run, tuple(course), outcomes


def plain_load(state, job, text, without=(), limit=None):
    """Loads a text, or so many of its units, into a state: section 10."""
    told = Told()
    taken = read(state.schema, job, text)
    told.records = {record.number: record for record in taken}
    told.units = tuple(tuple(record.number for record in unit) for unit in cut(job, taken))
    own = 0
    for numbers in told.units[:limit]:
        unit = [told.records[number] for number in numbers]
        for record in unit:
            if record.number in without:
                record.target = record.place = record.key = record.fault = None
        run, course, outcomes = run_unit(state, unit)
        told.course.append(course)
        rejected = [outcome for outcome in outcomes if outcome[1] == "rejected"]
        if job.most_rejects is not None and own + len(rejected) > job.most_rejects:
            told.status, told.stopped = "stopped", tuple(rejected)
            break
        own += len(rejected)
        state.version += 1
        if job.strict and rejected:
            least = min(outcome[0] for outcome in rejected)
            outcomes = [outcome[:1] + ("rejected",) + outcome[2:4] + (("unit", least), len(course), least)
                        if outcome[1] in ACTS else outcome for outcome in outcomes]
        else:
            state.tables, state.numbers = run.tables, run.numbers
        told.outcomes += outcomes
    return told


def rejects_of(told):
    return tuple((number, told.records[number].line, reason[:2] if reason[0] == "reference" else reason,
                  told.records[number].text)
                 for number, word, _, _, reason, _, _ in told.outcomes if word == "rejected")


def discards_of(told):
    return tuple((outcome[0], told.records[outcome[0]].line, told.records[outcome[0]].text)
                 for outcome in told.outcomes if outcome[1] == "discarded")
