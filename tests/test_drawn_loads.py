"""Drawn loads held against a plain reading of sections 9 and 10, and the facts 6.6, 7.3, 9.2, 9.8 and 10.3."""

import collections
import random
import unittest

from bulkload.courses import course_of
from bulkload.formats import Delimited
from bulkload.jobs import Job
from bulkload.loads import load, trial
from bulkload.schemas import Schema, Table, truth
from bulkload.tables import Database
from bulkload.units import WORDS, cut_units
from bulkload.values import is_value
from tests.drawn import NAMES, drawn_job, drawn_schema, drawn_text
from tests.plain_reading import Run, State, cut, discards_of, plain_load, read, rejects_of, totals

SEQUENCES = ("s", "t")


def with_settings(job, **settings):
    fields = {name: getattr(job, name) for name in ("size", "most_rejects", "strict", "skip_first", "at_most")}
    return Job(job.form, job.targets, **{**fields, **settings})


def without_ends(schema):
    """The same schema, with "now" in place of "end"."""
    tables = []
    for title in schema.titles:
        table = schema.table_of(title)
        references = tuple((titles, place, "now") for titles, place, _ in table.references)
        tables.append(Table(title, table.columns, table.key, uniques=table.uniques, references=references,
                            checks=table.checks, tallies=table.tallies))
    return Schema(tuple(tables))


def told(holder):
    """All that a database tells."""
    schema = holder.schema
    return ({title: holder.rows(title) for title in schema.titles}, holder.version,
            [holder.last_number(sequence) for sequence in SEQUENCES])


def plain_told(state):
    return ({title: state.rows(title) for title in state.schema.titles}, state.version,
            [state.numbers.get(sequence, 0) for sequence in SEQUENCES])


class PlainTest(unittest.TestCase):
    def check_load(self, database, state, job, text):
        """Loads a text into both, and returns the plain one's outcomes and course."""
        self.assertEqual(course_of(database, job, text), tuple(plain_course(state, job, text)))
        tried = trial(database, job, text)
        result = load(database, job, text)
        plain = plain_load(state, job, text)
        self.assertEqual(result.outcomes, tuple(plain.outcomes))
        self.assertEqual(tried.outcomes, result.outcomes)
        self.assertEqual((result.status, result.stopped), (plain.status, plain.stopped))
        self.assertEqual((result.rejects, result.discards), (rejects_of(plain), discards_of(plain)))
        self.assertEqual(told(database), plain_told(state))
        words = collections.Counter(outcome[1] for outcome in plain.outcomes)
        self.assertEqual(result.counts, {word: words[word] for word in WORDS})
        return plain

    def test_drawn_loads(self):
        """Three loads one behind the other on each drawn schema, with snapshots between them."""
        seen = collections.Counter()
        for seed in range(500):
            draw = random.Random(seed)
            schema = drawn_schema(draw)
            database, state = Database(schema), State(schema)
            shots = []
            for _ in range(3):
                shots.append((database.snapshot(), told(database)))
                job = drawn_job(draw, schema)
                with self.subTest(seed=seed, version=state.version):
                    plain = self.check_load(database, state, job, drawn_text(draw, schema, job))
                seen.update([(outcome[4] or (outcome[1],))[0] for outcome in plain.outcomes])
                seen[plain.status] += 1
                seen.update(len(runs) for runs in plain.course)
            for shot, before in shots:
                self.assertEqual(told(shot), before)
        # All words and reasons were drawn, and units of several runs.
        for word in ("loaded", "replaced", "merged", "changed", "removed", "skipped", "discarded", "format", "value",
                     "missing", "key", "absent", "check", "reference", "unique", "tally", "referred", "unit", "stopped",
                     1, 2, 3):
            self.assertGreater(seen[word], 5, word)

    def test_trials_without_some(self):
        for seed in range(200):
            draw = random.Random(-seed)
            schema = drawn_schema(draw)
            database, state = Database(schema), State(schema)
            first = drawn_job(draw, schema)
            self.check_load(database, state, first, drawn_text(draw, schema, first))
            job = drawn_job(draw, schema)
            text = drawn_text(draw, schema, job, 15)
            without = tuple(draw.sample(range(16), 3))
            before = told(database)
            result = trial(database, job, text, without=without)
            plain = plain_load(copied(state), job, text, without=without)
            self.assertEqual((result.outcomes, result.status, result.stopped),
                             (tuple(plain.outcomes), plain.status, plain.stopped))
            self.assertEqual(told(database), before)


def copied(state):
    other = State(state.schema)
    other.tables, other.numbers, other.version = state.tables, state.numbers, state.version
    return other


def plain_course(state, job, text):
    return plain_load(copied(state), job, text).course


class FactTest(unittest.TestCase):
    def check_database(self, database):
        """6.6 and 7.3."""
        schema = database.schema
        tables = {}
        for title in schema.titles:
            titles = [column.title for column in schema.table_of(title).columns]
            tables[title] = {database.key_of(title, row): dict(zip(titles, row)) for row in database.rows(title)}
            self.assertEqual(len(tables[title]), len(database.rows(title)))
        plain = {title: tables[title] for title in tables if title not in schema.tally_titles()}
        self.assertEqual({title: tables[title] for title in schema.tally_titles()}, totals(schema, plain))
        for title, rows in tables.items():
            table = schema.table_of(title)
            for row in rows.values():
                for column in table.columns:
                    value = row[column.title]
                    self.assertTrue(is_value(column.kind, value) if value is not None else column.nullable)
                for _, condition in table.checks:
                    self.assertIsNot(truth(condition, row), False)
                for titles, place, _ in table.references:
                    key = tuple(row[name] for name in titles)
                    self.assertTrue(None in key or key in tables[place])
            for titles in table.uniques:
                found = [values for values in (tuple(row[name] for name in titles) for row in rows.values())
                         if None not in values]
                self.assertEqual(len(found), len(set(found)))

    def test_databases(self):
        for seed in range(300):
            draw = random.Random(f"rows {seed}")
            schema = drawn_schema(draw)
            database = Database(schema)
            for _ in range(3):
                job = drawn_job(draw, schema, most_rejects=None)
                load(database, job, drawn_text(draw, schema, job))
                with self.subTest(seed=seed):
                    self.check_database(database)

    def test_runs(self):
        """9.2: as many runs as records and one more at most; 9.8 (A): keys of the rows only get fewer."""
        for seed in range(200):
            draw = random.Random(f"runs {seed}")
            schema = drawn_schema(draw)
            job = drawn_job(draw, schema, size=draw.choice((5, 30)), most_rejects=None)
            text = drawn_text(draw, schema, job)
            units = cut_units(schema, job, text)
            course = course_of(Database(schema), job, text)
            for unit, runs in zip(units, course):
                self.assertLessEqual(len(runs), len(unit) + 1)
                for before, run in zip(runs, runs[1:]):
                    gone = {step[0] for step in before if step[4] is not None}
                    self.assertEqual([step[0] for step in run], [step[0] for step in before if step[0] not in gone])
                    self.assertLessEqual({step[2:4] for step in run if step[1] == "loaded"},
                                         {step[2:4] for step in before if step[1] == "loaded"})
            for runs in course_of(Database(without_ends(schema)), job, text):
                self.assertEqual(len(runs), 1)

    def test_lost_references(self):
        """9.8 (A): the row to which a rejected record refers is not there at the end either."""
        for seed in range(200):
            draw = random.Random(f"lost {seed}")
            schema = drawn_schema(draw)
            rules = ("insert", "skip", "replace", "merge", "change")
            job = drawn_job(draw, schema, rules=rules, size=100, most_rejects=None, strict=False, at_most=100)
            database = Database(schema)
            result = load(database, job, drawn_text(draw, schema, job))
            for _, _, place, _, reason, _, _ in result.outcomes:
                if reason is not None and reason[0] == "reference":
                    references = schema.table_of(place).references
                    if references[reason[1]][2] == "end":
                        self.assertIsNone(database.row(references[reason[1]][1], reason[2]))

    def test_sizes(self):
        """9.8 (B): without references with "end", strict and most_rejects."""
        for seed in range(200):
            draw = random.Random(f"sizes {seed}")
            schema = without_ends(drawn_schema(draw))
            drawn = drawn_job(draw, schema, most_rejects=None, strict=False)
            text = drawn_text(draw, schema, drawn)
            seen = []
            for size in (1, 2, 7, 100):
                database = Database(schema)
                result = load(database, with_settings(drawn, size=size), text)
                seen.append(([outcome[:6] for outcome in result.outcomes], told(database)[0], told(database)[2]))
            self.assertEqual(seen, seen[:1] * 4)

    def test_order_of_the_ends(self):
        """9.8 (C): for insert alone, if in each run one drawn record falls of those that 9.5 would reject."""
        checked = 0
        for seed in range(150):
            draw = random.Random(f"ends {seed}")
            schema = plain_schema(drawn_schema(draw))
            job = drawn_job(draw, schema, rules=("insert",), size=100, most_rejects=None, strict=False, skip_first=0,
                            at_most=None)
            text = drawn_text(draw, schema, job)
            state = State(schema)
            plain = plain_load(state, job, text)
            rejected = {outcome[0] for outcome in plain.outcomes if outcome[1] == "rejected"}
            checked += any(len(runs) > 1 for runs in plain.course)
            self.assertEqual(one_by_one(schema, job, text, draw), rejected)
        self.assertGreater(checked, 20)

    def test_counts(self):
        """10.3: they sum up to the records that were taken."""
        for seed in range(100):
            draw = random.Random(f"counts {seed}")
            schema = drawn_schema(draw)
            job = drawn_job(draw, schema, most_rejects=None)
            text = drawn_text(draw, schema, job)
            result = load(Database(schema), job, text)
            taken = sum(map(len, cut_units(schema, job, text)))
            self.assertEqual((sum(result.counts.values()), len(result)), (taken, taken))

    def test_a_second_load_with_skip(self):
        """10.3: what was loaded is skipped; without rejects no row is changed."""
        whole = 0
        for seed in range(300):
            draw = random.Random(f"skip {seed}")
            schema = drawn_schema(draw)
            job = drawn_job(draw, schema, rules=("insert",), most_rejects=None)
            text = drawn_text(draw, schema, job, draw.choice((3, 30)))
            database = Database(schema)
            first = load(database, job, text)
            before = told(database)
            for target in job.targets:
                target.rule = "skip"
            second = load(database, job, text)
            for outcome in first.outcomes:
                if outcome[1] == "loaded":
                    self.assertEqual(second.outcome(outcome[0])[1], "skipped")
            if not first.counts["rejected"]:
                whole += 1
                self.assertEqual((told(database)[0], told(database)[2]), (before[0], before[2]))
        self.assertGreater(whole, 20)


def plain_schema(schema):
    """The same schema without tallies and sequences."""
    tables = []
    for title in schema.titles:
        table = schema.table_of(title)
        if title not in schema.tally_titles():
            for column in table.columns:
                if isinstance(column.default, tuple):
                    column.default = None
            tables.append(Table(title, table.columns, table.key, uniques=table.uniques, references=table.references,
                                checks=table.checks))
    return Schema(tuple(tables))


def one_by_one(schema, job, text, draw):
    """The rejected records if each run rejects one drawn record of those that 9.5 would reject."""
    state = State(schema)
    rejected = set()
    for unit in cut(job, read(schema, job, text)):
        while True:
            run = Run(state)
            for record in unit:
                if record.number not in rejected and run.handle(record)[0] == "rejected":
                    rejected.add(record.number)
            ends = sorted(run.ends())
            if not ends:
                break
            rejected.add(draw.choice(ends))
        state.tables, state.numbers = run.tables, run.numbers
    return rejected


class HeaderTest(unittest.TestCase):
    def test_header_or_names(self):
        """The same records with a header and with names."""
        for seed in range(60):
            draw = random.Random(f"header {seed}")
            schema = drawn_schema(draw)
            job = drawn_job(draw, schema, form=Delimited(names=NAMES))
            text = drawn_text(draw, schema, job)
            one, other = Database(schema), Database(schema)
            result = load(one, job, text)
            fields = {name: getattr(job, name) for name in ("size", "most_rejects", "strict", "skip_first", "at_most")}
            again = load(other, Job(Delimited(), job.targets, **fields), ",".join(NAMES) + "\n" + text)
            self.assertEqual((result.outcomes, told(one)), (again.outcomes, told(other)))
            self.assertEqual([(number, line + 1) for number, line, *_ in result.rejects],
                             [(number, line) for number, line, *_ in again.rejects])


if __name__ == "__main__":
    unittest.main()
