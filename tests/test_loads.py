"""Loads and trials: section 10, 9.6, 14.3, and the interface's section on bulkload/loads.py."""

import unittest

from bulkload.formats import Delimited, Fixed
from bulkload.jobs import Job, Target
from bulkload.loads import Result, load, trial
from bulkload.schemas import Column, Schema, Table
from bulkload.tables import Database
from bulkload.units import WORDS
from tests.handling_setting import all_rows, column, free, put, run, target
from tests.helpers import ODDITIES, caught

TABLE = Table("t", (column("k"), free("a"), free("s", default=("next", "q"))), ("k",), uniques=(("a",),),
              references=((("a",), "t", "end"),))
SCHEMA = Schema((TABLE,))
NAMES = ("to", "k", "a")
FORM = Delimited(names=NAMES)
PAIRS = (("k", ("field", "k")), ("a", ("field", "a")))


def rule_for(sign, rule, pairs=PAIRS):
    return Target("t", pairs, rule=rule, condition=("is", ("field", "to"), sign))


TARGETS = (rule_for("i", "insert"), rule_for("s", "skip"), rule_for("r", "replace"), rule_for("m", "merge"),
           rule_for("c", "change"), rule_for("x", "remove", PAIRS[:1]))


def job(**settings):
    return Job(FORM, TARGETS, **settings)


def text_of(*lines):
    return "".join(line + "\n" for line in lines)


def short(result):
    """The word, or the reason and what stands in the way, of each outcome."""
    return [outcome[1] if outcome[4] is None else outcome[4] + (outcome[6],) for outcome in result.outcomes]


class ResultTest(unittest.TestCase):
    lines = ("i,1,", "s,1,", "r,1,", "m,2,", "m,2,2", "c,2,", "x,1,", "z,1,", "c,7,", 'i,"', "i,x,", "i,3,9", "i,3,")
    expected = (
        (1, "loaded", "t", (1,), None, None, None), (2, "skipped", "t", (1,), None, None, None),
        (3, "replaced", "t", (1,), None, None, None), (4, "loaded", "t", (2,), None, None, None),
        (5, "merged", "t", (2,), None, None, None), (6, "changed", "t", (2,), None, None, None),
        (7, "removed", "t", (1,), None, None, None), (8, "discarded", None, None, None, None, None),
        (9, "rejected", "t", (7,), ("absent",), 1, None),
        (10, "rejected", None, None, ("format", "quote"), 1, None))

    def test_outcomes(self):
        text = text_of(*self.lines)
        quoted = text.replace('"', '"\n"')
        database = Database(SCHEMA)
        result = load(database, job(), quoted)
        self.assertIs(type(result), Result)
        self.assertEqual(result.outcomes[:10], self.expected[:9] + ((10, "rejected", None, None, ("format", "fields"), 1,
                                                                    None),))
        self.assertEqual(result.outcomes[10:], (
            (11, "rejected", "t", None, ("value", "k", "number"), 1, None),
            (12, "rejected", "t", (3,), ("reference", 0, (9,)), 1, None),
            (13, "rejected", "t", (3,), ("key",), 1, 12)))
        self.assertEqual((result.status, result.stopped, len(result)), ("done", (), 13))
        self.assertEqual(result.counts, {"loaded": 2, "replaced": 1, "merged": 1, "changed": 1, "removed": 1,
                                         "skipped": 1, "discarded": 1, "rejected": 5})
        self.assertEqual(result.discards, ((8, 8, "z,1,\n"),))
        self.assertEqual(result.rejects, (
            (9, 9, ("absent",), "c,7,\n"), (10, 10, ("format", "fields"), 'i,"\n"\n'),
            (11, 12, ("value", "k", "number"), "i,x,\n"), (12, 13, ("reference", 0), "i,3,9\n"),
            (13, 14, ("key",), "i,3,\n")))
        self.assertEqual(database.rows("t"), [(2, 2, 3)])

    def test_a_last_record_without_a_line_feed(self):
        result = load(Database(SCHEMA), job(), "z,1,\ni,1")
        self.assertEqual((result.discards, result.rejects),
                         (((1, 1, "z,1,\n"),), ((2, 2, ("format", "fields"), "i,1"),)))

    def test_lines_behind_a_header(self):
        result = load(Database(SCHEMA), Job(Delimited(), TARGETS), "to,k,a\nz,1,\ni,x,\n")
        self.assertEqual((result.discards, result.rejects),
                         (((1, 2, "z,1,\n"),), ((2, 3, ("value", "k", "number"), "i,x,\n"),)))

    def test_fixed(self):
        form = Fixed((("to", 1, "left", " "), ("k", 2, "left", "0"), ("a", 1, "right", " ")))
        database = Database(SCHEMA)
        result = load(database, Job(form, TARGETS), "i01 \ni00\ni02 ")
        self.assertEqual(short(result), ["loaded", ("format", "width", None), "loaded"])
        self.assertEqual(database.rows("t"), [(1, None, 1), (2, None, 2)])

    def test_outcome(self):
        result = load(Database(SCHEMA), job(), text_of(*self.lines))
        for outcome in result.outcomes:
            self.assertEqual(result.outcome(outcome[0]), outcome)
            self.assertEqual(result.outcome(number=outcome[0]), outcome)
        for value in ODDITIES + (11, 14, "1", (1,)):
            if not (type(value) is int and 1 <= value <= len(result)):
                with self.assertRaises(ValueError) as told:
                    result.outcome(value)
                self.assertEqual(type(told.exception).__name__, "NoRecord")
                self.assertIs(told.exception.number, value)

    def test_records_that_are_not_taken(self):
        """They have no outcome."""
        result = load(Database(SCHEMA), job(skip_first=1, at_most=2), text_of("i,1,", "i,x,", "i,1,", "i,1,"))
        self.assertEqual([outcome[:2] for outcome in result.outcomes], [(2, "rejected"), (3, "loaded")])
        for number in (0, 1, 4):
            self.assertEqual(caught(result.outcome, number), ("NoRecord", number))
        self.assertEqual(sum(result.counts.values()), 2)

    def test_no_records(self):
        database = Database(SCHEMA)
        result = load(database=database, job=job(), text="")
        self.assertEqual((result.outcomes, result.counts, result.rejects, result.discards, len(result), result.status),
                         ((), dict.fromkeys(WORDS, 0), (), (), 0, "done"))
        self.assertEqual(database.version, 0)

    def test_counts_belong_to_the_caller(self):
        result = load(Database(SCHEMA), job(), "i,1,\n")
        result.counts["loaded"] = 9
        self.assertEqual(result.counts["loaded"], 1)
        self.assertEqual(list(result.counts), list(WORDS))

    def test_properties_are_only_read(self):
        result = load(Database(SCHEMA), job(), "")
        for name in ("outcomes", "status", "counts", "rejects", "discards", "stopped"):
            self.assertIsInstance(vars(Result)[name], property)
            with self.assertRaises(AttributeError):
                setattr(result, name, ())


class StopTest(unittest.TestCase):
    """10.1."""

    lines = ("i,1,", "i,x,", "i,2,", "i,2,", "z,,", "i,3,", "i,y,")

    def stopped(self, most, **settings):
        database = Database(SCHEMA)
        result = load(database, job(most_rejects=most, **settings), text_of(*self.lines))
        return (result.status, len(result), [outcome[0] for outcome in result.stopped], len(database.rows("t")),
                database.version, database.last_number("q"))

    def test_limits(self):
        """More than the limit stops it; as many do not; units of two: rejected are 2, 4 and 7."""
        self.assertEqual(self.stopped(None, size=2), ("done", 7, [], 3, 4, 3))
        self.assertEqual(self.stopped(3, size=2), ("done", 7, [], 3, 4, 3))
        self.assertEqual(self.stopped(2, size=2), ("stopped", 6, [7], 3, 3, 3))
        self.assertEqual(self.stopped(1, size=2), ("stopped", 2, [4], 1, 1, 1))
        self.assertEqual(self.stopped(0, size=2), ("stopped", 0, [2], 0, 0, 0))
        self.assertEqual(self.stopped(2), ("stopped", 0, [2, 4, 7], 0, 0, 0))
        self.assertEqual(self.stopped(3), ("done", 7, [], 3, 1, 3))
        self.assertEqual(self.stopped(10 ** 30), ("done", 7, [], 3, 1, 3))

    def test_what_the_unit_is_not_in(self):
        """Outcomes, counts, rejects, discards and version."""
        database = Database(SCHEMA)
        result = load(database, job(most_rejects=1, size=3), text_of("z,,", "i,x,", "i,1,", "z,,", "i,2,9", "i,1,"))
        self.assertEqual(result.outcomes, ((1, "discarded", None, None, None, None, None),
                                           (2, "rejected", "t", None, ("value", "k", "number"), 1, None),
                                           (3, "loaded", "t", (1,), None, None, None)))
        self.assertEqual(result.stopped, ((5, "rejected", "t", (2,), ("reference", 0, (9,)), 1, None),
                                          (6, "rejected", "t", (1,), ("key",), 1, 0)))
        self.assertEqual((result.counts["discarded"], result.counts["rejected"], len(result.rejects),
                          len(result.discards)), (1, 1, 1, 1))
        self.assertEqual(caught(result.outcome, 5), ("NoRecord", 5))
        self.assertEqual((database.rows("t"), database.version), ([(1, None, 1)], 1))

    def test_runs_in_what_stopped(self):
        database = Database(SCHEMA)
        result = load(database, job(most_rejects=1), text_of("i,1,2", "i,2,9", "i,3,1"))
        self.assertEqual([outcome[4:] for outcome in result.stopped],
                         [(("reference", 0, (2,)), 2, None), (("reference", 0, (9,)), 1, None),
                          (("reference", 0, (1,)), 3, None)])

    def test_strict(self):
        """Records that fall with their unit have no reason of their own."""
        database = Database(SCHEMA)
        lines = text_of("i,1,", "i,2,", "i,x,", "i,1,", "i,2,", "i,y,")
        result = load(database, job(most_rejects=1, size=3, strict=True), lines)
        self.assertEqual((result.status, len(result), result.counts["rejected"]), ("stopped", 3, 3))
        self.assertEqual([outcome[0] for outcome in result.stopped], [6])
        result = load(database, job(most_rejects=2, size=3, strict=True), lines)
        self.assertEqual((result.status, len(result), result.counts["rejected"]), ("done", 6, 6))


class StrictTest(unittest.TestCase):
    """9.6."""

    def test_unit(self):
        database = Database(SCHEMA)
        put(database, "t", ("5", "", ""))
        self.assertEqual((database.version, database.last_number("q")), (1, 1))
        result = load(database, job(strict=True, size=9), text_of(
            "i,1,", "s,5,", "z,,", "r,5,", "m,5,", "c,5,", "i,2,9", "i,3,2", "i,4,", "i,x,"))
        self.assertEqual(result.outcomes, (
            (1, "rejected", "t", (1,), ("unit", 7), 3, 7), (2, "skipped", "t", (5,), None, None, None),
            (3, "discarded", None, None, None, None, None), (4, "rejected", "t", (5,), ("unit", 7), 3, 7),
            (5, "rejected", "t", (5,), ("unit", 7), 3, 7), (6, "rejected", "t", (5,), ("unit", 7), 3, 7),
            (7, "rejected", "t", (2,), ("reference", 0, (9,)), 1, None),
            (8, "rejected", "t", (3,), ("reference", 0, (2,)), 2, None),
            (9, "rejected", "t", (4,), ("unit", 7), 3, 7),
            (10, "rejected", "t", None, ("value", "k", "number"), 1, None)))
        self.assertEqual((database.rows("t"), database.version, database.last_number("q")), ([(5, None, 1)], 3, 1))
        self.assertEqual(result.rejects[0], (1, 1, ("unit", 7), "i,1,\n"))
        self.assertEqual((result.counts["rejected"], result.counts["skipped"], result.status), (8, 1, "done"))

    def test_the_least_number(self):
        """Of those with a reason of their own, not the one that fell first."""
        result = load(Database(SCHEMA), job(strict=True), text_of("i,1,2", "i,2,9", "i,x,", "i,4,"))
        self.assertEqual(short(result)[3], ("unit", 1, 1))
        self.assertEqual(result.outcomes[3][5], 3)

    def test_units_without_rejects(self):
        database = Database(SCHEMA)
        result = load(database, job(strict=True, size=2), text_of("i,1,", "i,2,", "i,3,", "i,1,", "i,3,", "i,4,"))
        self.assertEqual(short(result), ["loaded", "loaded", ("unit", 4, 4), ("key", 0), "loaded", "loaded"])
        self.assertEqual(database.rows("t"), [(1, None, 1), (2, None, 2), (3, None, 3), (4, None, 4)])
        self.assertEqual(database.version, 3)

    def test_removals(self):
        database = Database(SCHEMA)
        result = load(database, job(strict=True), text_of("i,1,", "x,1,", "x,1,", "i,1,", "i,x,"))
        self.assertEqual(short(result), ["loaded", "removed", ("absent", None), ("unit", 5, 5),
                                         ("value", "k", "number", None)])
        self.assertEqual((database.rows("t"), database.version), ([], 4))


class DatabaseTest(unittest.TestCase):
    """7.1 and 7.2 behind loads."""

    def test_version(self):
        """It grows with each unit, also if it puts nothing."""
        database = Database(SCHEMA)
        load(database, job(size=2), text_of("i,1,", "z,,", "i,x,", "z,,", "x,9,", "s,1,"))
        self.assertEqual(database.version, 4)
        load(database, job(size=2), "i,2,")
        self.assertEqual(database.version, 5)

    def test_order_of_the_keys(self):
        columns = (Column("a", ("text", 9)), Column("b", ("int", -99, 99)), Column("c", ("truth",)))
        database = Database(Schema((Table("t", columns, ("c", "a", "b")),)))
        rows = (("b", "5", "no"), ("a", "-7", "yes"), ("ab", "3", "no"), ("a", "10", "no"), ("a", "9", "no"),
                ("B", "9", "yes"), ("", "0", "yes"))
        titles = ("a", "b", "c")
        run(database, titles, (target("insert", "t", titles),), text_of(*[",".join(row) for row in rows])
            .replace("\n,0,yes", '\n"",0,yes'))
        self.assertEqual(database.rows("t"), [
            ("a", 9, False), ("a", 10, False), ("ab", 3, False), ("b", 5, False), ("", 0, True), ("B", 9, True),
            ("a", -7, True)])
        self.assertEqual(database.row("t", (True, "B", 9)), ("B", 9, True))
        self.assertEqual(database.key_of("t", ("B", 9, True)), (True, "B", 9))

    def test_loads_one_behind_the_other(self):
        database = Database(SCHEMA)
        load(database, job(), text_of("i,1,1", "i,2,2"))
        result = load(database, job(), text_of("i,1,", "i,3,2", "m,2,3", "i,4,2"))
        self.assertEqual(short(result), [("key", 0), ("unique", 0, 0), ("reference", 0, (3,), None), ("unique", 0, 0)])
        result = load(database, job(), text_of("x,1,", "i,5,1", "i,1,1"))
        self.assertEqual(short(result), ["removed", ("reference", 0, (1,), None), ("unique", 0, 2)])
        self.assertEqual(database.last_number("q"), 2)

    def test_snapshots(self):
        """They stay as they were."""
        database = Database(SCHEMA)
        shots, told = [], []
        for line in ("i,1,1", "i,2,2", "m,1,2", "x,2,", "r,1,", "x,1,"):
            shots.append(database.snapshot())
            told.append((database.rows("t"), database.version, database.last_number("q"), database.row("t", (1,))))
            load(database, job(), line)
        self.assertEqual([(shot.rows("t"), shot.version, shot.last_number("q"), shot.row("t", (1,))) for shot in shots],
                         told)
        self.assertEqual([len(rows) for rows, *_ in told], [0, 1, 2, 2, 1, 1])


class TrialTest(unittest.TestCase):
    """14.3 and the interface."""

    lines = text_of("i,1,", "i,1,", "x,1,", "i,2,3", "i,3,3", "i,2,", "i,x,")

    def database(self):
        database = Database(SCHEMA)
        put(database, "t", ("9", "", ""))
        return database

    def told(self, result):
        return (result.outcomes, result.counts, result.rejects, result.discards, result.status, result.stopped)

    def test_as_load(self):
        for settings in ({}, {"size": 1}, {"strict": True}, {"most_rejects": 1, "size": 2}):
            database = self.database()
            before = (all_rows(database), database.version, database.last_number("q"))
            result = trial(database, job(**settings), self.lines)
            self.assertIs(type(result), Result)
            self.assertEqual((all_rows(database), database.version, database.last_number("q")), before)
            self.assertEqual(self.told(load(database, job(**settings), self.lines)), self.told(result))
            self.assertNotEqual((all_rows(database), database.version, database.last_number("q")), before)

    def test_without(self):
        result = trial(database=self.database(), job=job(), text=self.lines, without=(1, 5))
        self.assertEqual(short(result), ["discarded", "loaded", "removed", ("reference", 0, (3,), None), "discarded",
                                         ("key", 4), ("value", "k", "number", None)])
        self.assertEqual(result.outcomes[0], (1, "discarded", None, None, None, None, None))
        self.assertEqual(result.discards, ((1, 1, "i,1,\n"), (5, 5, "i,3,3\n")))
        self.assertEqual(short(trial(self.database(), job(), self.lines, without=(4,)))[3:6],
                         ["discarded", "loaded", "loaded"])

    def test_faults_are_discarded_too(self):
        result = trial(self.database(), job(), self.lines + 'i,1\n', without=(7, 8))
        self.assertEqual(short(result)[6:], ["discarded", "discarded"])

    def test_units_stay(self):
        """The record is discarded in its unit, and a removal stays a unit of its own."""
        result = trial(self.database(), job(), self.lines, without=(3,))
        self.assertEqual(short(result)[:3], ["loaded", ("key", 1), "discarded"])
        lines = text_of("i,1,", "x,1,", "i,1,")
        self.assertEqual(short(trial(self.database(), job(), lines, without=(2,))), ["loaded", "discarded", ("key", 0)])
        lines = text_of("i,1,", "i,2,", "i,1,")
        self.assertEqual(short(trial(self.database(), job(size=2), lines, without=(2,)))[2], ("key", 0))
        self.assertEqual(short(trial(self.database(), job(size=3), lines, without=(2,)))[2], ("key", 1))

    def test_other_values_mean_nothing(self):
        plain = self.told(trial(self.database(), job(), self.lines))
        odd = (0, -1, 8, 10 ** 30, True, False, "1", None, (1,), [1], {"1": 1}, b"1", object())
        self.assertEqual(self.told(trial(self.database(), job(), self.lines, without=odd)), plain)
        self.assertEqual(self.told(trial(self.database(), job(), self.lines, without=odd + (2, 2))),
                         self.told(trial(self.database(), job(), self.lines, without=(2,))))
        skipping = job(skip_first=2)
        self.assertEqual(self.told(trial(self.database(), skipping, self.lines, without=(1, 2))),
                         self.told(trial(self.database(), skipping, self.lines)))

    def test_without_only_by_name(self):
        with self.assertRaises(TypeError):
            trial(self.database(), job(), self.lines, (1,))

    def test_stops(self):
        lines = text_of("i,x,", "i,1,", "i,y,", "i,2,")
        limited = job(most_rejects=1, size=2)
        self.assertEqual(trial(self.database(), limited, lines).status, "stopped")
        self.assertEqual(trial(self.database(), limited, lines, without=(1,)).status, "done")
        self.assertEqual(short(trial(self.database(), limited, lines, without=(3,))),
                         [("value", "k", "number", None), "loaded", "discarded", "loaded"])


class ErrorTest(unittest.TestCase):
    """Each ahead of the next one; and what is refused changes nothing."""

    def test_errors_of_both(self):
        for call in (load, trial):
            database = Database(SCHEMA)
            put(database, "t", ("1", "", ""))
            wrong = Job(Delimited(), (Target("t", (("k", ("field", "z")),)),))
            for value in ODDITIES:
                if not isinstance(value, str):
                    self.assertEqual(caught(call, database, Job(None, ()), value), ("BadText", None))
            self.assertEqual(caught(call, database, Job(None, ()), "i,2,\n\u0025"), ("BadText", 5))
            self.assertEqual(caught(call, database, Job(None, ()), ""), ("BadJob", None, "format"))
            self.assertEqual(caught(call, database, Job(Delimited(), TARGETS, size=101), ""), ("BadJob", None, "size"))
            self.assertEqual(caught(call, database, wrong, ""), ("BadHeader", "none"))
            self.assertEqual(caught(call, database, wrong, "k,k\n2,2\n"), ("BadHeader", "twice"))
            self.assertEqual(caught(call, database, wrong, "k,a\n2,2\n"), ("BadJob", 0, "expression"))
            self.assertEqual((database.rows("t"), database.version, database.last_number("q")), ([(1, None, 1)], 1, 1))

    def test_fields_of_a_job(self):
        for value in ODDITIES:
            if type(value) is not bool:
                self.assertEqual(caught(load, Database(SCHEMA), job(strict=value), ""), ("BadJob", None, "strict"))
            if not isinstance(value, tuple):
                self.assertEqual(caught(trial, Database(SCHEMA), Job(FORM, value), ""), ("BadJob", None, "targets"))


class BoundTest(unittest.TestCase):
    """2.4: no error of the program's own."""

    def test_many_records_and_rows(self):
        table = Table("t", tuple(Column(f"c{at}", ("int", 0, 99999), nullable=at > 0) for at in range(16)), ("c0",),
                      references=((("c1",), "t", "end"),), uniques=(("c2",),))
        tables = (table,) + tuple(Table(f"t{at}", (column("k"),), ("k",)) for at in range(11))
        database = Database(Schema(tables))
        rows = database._contents.tables["t"]
        for at in range(10000):
            rows[(at,)] = (at, (at + 1) % 10000, at) + (None,) * 13
        titles = ("c0", "c1", "c2")
        targets = tuple(target("merge", "t", titles, condition=("is", ("field", "c0"), str(at))) for at in range(7))
        targets += (target("insert", "t", titles),)
        text = "".join(f"{20000 + at},,\n" for at in range(2000))
        for size in (1, 100):
            result = trial(database, Job(Delimited(names=titles), targets, size=size), text)
            self.assertEqual((result.counts["loaded"], len(result)), (2000, 2000))

    def test_a_text_of_20000_characters(self):
        database = Database(SCHEMA)
        result = load(database, job(), "\n" * 20000)
        self.assertEqual((len(result), result.rejects[-1]), (20000, (20000, 20000, ("format", "fields"), "\n")))
        self.assertEqual(len(load(database, job(), 'i,"' + "x" * 19997)), 1)


if __name__ == "__main__":
    unittest.main()
