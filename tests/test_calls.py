"""2.2 and 2.3: how everything of the interface is called, and that refused calls change nothing."""

import inspect
import unittest

from bulkload import (courses, disks, expressions, formats, jobs, loaders, loads, looks, pieces, rejects, schemas,
                      staging, tables, units, values)
from bulkload.errors import BulkError
from tests.handling_setting import column, free, target

TABLE = schemas.Table("t", (column("k"), free("a"), free("s", default=("next", "q"))), ("k",),
                      references=((("a",), "t", "end"),))
SCHEMA = schemas.Schema((TABLE,))
FORM = formats.Delimited(names=("k", "a"))
JOB = jobs.Job(FORM, (target("insert", "t", ("k", "a")),), size=2)
TEXT = "1,2\n2,9\n3,\n"
REJECT = (1, 1, ("key",), "a\n")
COURSE = courses.course_of(tables.Database(SCHEMA), JOB, TEXT)
SUMMARY = (False, ("a\n", ""), ("a\n", ""))


def new_database():
    return tables.Database(SCHEMA)


def result():
    return loads.load(new_database(), JOB, TEXT)


def disk():
    made = disks.Disk({"log": "one"})
    made.write("log", "two")
    return made


def loader():
    made = loaders.Loader(disks.Disk(), SCHEMA, JOB, "a")
    made.feed("1,\n")
    return made


def going():
    made = disks.Disk()
    loaders.Loader(made, SCHEMA, JOB, "a")
    return made


def staged():
    return staging.Staging(SCHEMA, JOB, TEXT, (4,))


def ready():
    made = staged()
    for k in (0, 1, 0, 1):
        made.work(k)
    return made


def method(make, name):
    """A function that calls a method of a new object."""
    return lambda *given, **named: getattr(make(), name)(*given, **named)


# Each function, class and method with arguments, those after * left out, as (call, names, arguments).
CALLS = (
    (values.is_kind, "value", (("date",),)), (values.is_value, "kind value", (("date",), 1)),
    (values.are_alike, "one other", (("date",), ("date",))), (values.convert, "kind text", (("date",), "0001-01-01")),
    (values.show, "kind value", (("date",), 5)),
    (formats.Fixed, "columns", ((("k", 1, "left", " "),),)), (formats.records, "form text", (FORM, TEXT)),
    (formats.names_of, "form text", (FORM, TEXT)), (formats.written, "form rows", (FORM, (("1", None),))),
    (method(formats.Delimited, "with_names"), "names", (("k",),)),
    (pieces.summary, "form piece", (FORM, "a\n")), (pieces.joined, "one other", (SUMMARY, SUMMARY)),
    (pieces.records_in, "form whole", (FORM, SUMMARY)),
    (expressions.is_expression, "value names", (("none",), ("a",))),
    (expressions.is_condition, "value names", (("always",), ("a",))),
    (expressions.evaluate, "expression names fields number", (("number",), ("a",), ("1",), 5)),
    (expressions.holds, "condition names fields number", (("always",), ("a",), ("1",), 5)),
    (expressions.used, "value", (("field", "a"),)),
    (schemas.Column, "title kind", ("k", ("date",))), (schemas.Table, "title columns key", ("t", TABLE.columns, ("k",))),
    (schemas.Schema, "tables", ((TABLE,),)), (schemas.truth, "condition row", (("missing", ("column", "a")), {"a": 1})),
    (SCHEMA.table_of, "place", ("t",)), (tables.Database, "schema", (SCHEMA,)),
    (method(new_database, "rows"), "place", ("t",)), (method(new_database, "row"), "place key", ("t", (1,))),
    (method(new_database, "key_of"), "place row", ("t", (1, 2, 3))),
    (method(new_database, "last_number"), "sequence", ("q",)),
    (jobs.Target, "place columns", ("t", ())), (jobs.Job, "form targets", (FORM, ())),
    (jobs.check_job, "schema job", (SCHEMA, JOB)),
    (units.cut_units, "schema job text", (SCHEMA, JOB, TEXT)),
    (lambda *given, **named: loads.load(*given, **named), "database job text", (new_database(), JOB, "")),
    (loads.trial, "database job text", (new_database(), JOB, TEXT)), (method(result, "outcome"), "number", (1,)),
    (rejects.write_rejects, "rejects", ((REJECT,),)), (rejects.read_rejects, "string", ("reject 1 1 2 key\na\n",)),
    (rejects.source_of, "rejects", ((REJECT,),)),
    (disks.Disk, "files", ({"a": "x"},)), (method(disk, "write"), "name text", ("log", "x")),
    (method(disk, "sync"), "name", ("log",)), (method(disk, "cut"), "name length", ("log", 2)),
    (method(disk, "drop"), "name", ("log",)), (method(disk, "swap"), "text", ("x",)),
    (method(disk, "read"), "name", ("log",)), (method(disk, "lost"), "kept", ({"log": 1},)),
    (lambda *given, **named: loaders.Loader(*given, **named), "disk schema job name", (disks.Disk(), SCHEMA, JOB, "a")),
    (method(loader, "feed"), "text", ("2,\n",)), (loaders.view, "disk schema", (disks.Disk(), SCHEMA)),
    (lambda *given, **named: loaders.give_up(going(), *given, **named), "schema name", (SCHEMA, "a")),
    (staging.Staging, "schema job text cuts", (SCHEMA, JOB, TEXT, (4,))),
    (method(staged, "part"), "k", (1,)), (method(staged, "state"), "k", (1,)), (method(staged, "work"), "k", (1,)),
    (method(staged, "seen"), "k", (1,)), (method(ready, "prepared"), "k", (1,)),
    (method(ready, "result"), "database", (new_database(),)),
    (looks.load_order, "schema", (SCHEMA,)), (looks.blame, "result number", (result(), 1)),
    (looks.influence, "database job text number", (new_database(), JOB, TEXT, 2)),
    (courses.course_of, "database job text", (new_database(), JOB, TEXT)),
    (courses.fault_in, "database job text course", (new_database(), JOB, TEXT, COURSE)),
    (courses.outcomes_told, "database job text course", (new_database(), JOB, TEXT, COURSE)),
    (courses.rows_told, "database job text course", (new_database(), JOB, TEXT, COURSE)),
)
PLAIN = (type(None), bool, int, str, tuple, list, dict)


class CallTest(unittest.TestCase):
    def test_by_position_and_by_name(self):
        """With all arguments by name, in any order, and with the first ones by position."""
        for call, names, given in CALLS:
            names = names.split()
            plain = call(*given)
            for many in range(len(names)):
                named = dict(reversed(list(zip(names[many:], given[many:]))))
                again = call(*given[:many], **named)
                self.assertEqual(type(again), type(plain), names)
                if isinstance(plain, PLAIN):
                    self.assertEqual(again, plain, names)

    def test_only_by_name(self):
        for call, given in ((formats.Delimited, (",",)), (formats.written, (FORM, (("1", None),), None)),
                            (schemas.Column, ("k", ("date",), True)), (schemas.Table, ("t", TABLE.columns, ("k",), ())),
                            (jobs.Target, ("t", (), ("always",))), (jobs.Job, (FORM, (), 5)),
                            (loads.trial, (new_database(), JOB, TEXT, ())), (disks.Disk, ({}, ""))):
            with self.assertRaises(TypeError):
                call(*given)

    def test_fields_of_errors(self):
        """The parameters of each error's constructor are its fields."""
        import bulkload.errors
        for name, error in vars(bulkload.errors).items():
            if inspect.isclass(error) and error is not BulkError:
                names = list(inspect.signature(error.__init__).parameters)[1:]
                made = error(**{field: object() for field in names})
                self.assertEqual(sorted(vars(made)), sorted(names), name)
                self.assertEqual(error.__bases__, (BulkError,))


class ChangeTest(unittest.TestCase):
    """2.3: a call that raises an error changes nothing."""

    def refuse(self, state, *calls):
        before = state()
        for call in calls:
            with self.assertRaises(BulkError):
                call()
            self.assertEqual(state(), before)

    def test_databases(self):
        database = new_database()
        loads.load(database, JOB, "1,\n2,1\n")
        wrong = jobs.Job(FORM, JOB.targets, size=0)
        headed = jobs.Job(formats.Delimited(), JOB.targets)
        state = lambda: (database.rows("t"), database.version, database.last_number("q"))
        for function, more in ((loads.load, ()), (loads.trial, ()), (courses.course_of, ()), (courses.fault_in, (COURSE,)),
                               (courses.outcomes_told, (COURSE,)), (courses.rows_told, (COURSE,)),
                               (looks.influence, (1,))):
            self.refuse(state, lambda: function(database, JOB, "3,\n\t", *more),
                        lambda: function(database, wrong, "3,\n", *more),
                        lambda: function(database, headed, "k,k\n3,\n", *more),
                        lambda: function(database, headed, "k\n3\n", *more))
        self.refuse(state, lambda: courses.outcomes_told(database, JOB, "3,\n", ()),
                    lambda: courses.rows_told(database, JOB, "3,\n", ()), lambda: database.rows("u"),
                    lambda: database.row("u", (1,)), lambda: looks.influence(database, JOB, "3,\n", 2))
        made = staged()
        self.refuse(state, lambda: made.result(database))

    def test_disks(self):
        made = disks.Disk({"a": "xy"}, head="h", room=5)
        made.write("a", "z")
        state = lambda: (made.files(), made.head, made.writes(), made.lost().files())
        self.refuse(state, lambda: made.write("A", "x"), lambda: made.write("a", "\t"), lambda: made.write("a", "xx"),
                    lambda: made.sync("b"), lambda: made.cut("b", 0), lambda: made.cut("a", 4), lambda: made.drop("b"),
                    lambda: made.swap("\t"), lambda: made.swap("x" * 101), lambda: made.swap("xxx"),
                    lambda: made.read("A"), lambda: made.lost({"a": 2}), lambda: made.lost({"b": 0}))

    def test_stagings(self):
        made = staging.Staging(SCHEMA, JOB, TEXT, (2, 4))
        made.work(0)
        made.work(1)
        made.work(1)
        state = lambda: ([made.state(k) for k in range(3)], [made.seen(k) for k in range(3)],
                         [made.prepared(k) for k in range(3)], made.ready())
        self.refuse(state, lambda: made.work(1), lambda: made.work(3), lambda: made.work("0"), lambda: made.part(-1),
                    lambda: made.result(new_database()))
        made = staging.Staging(SCHEMA, JOB, TEXT, (1, 4))
        made.work(0)
        self.refuse(state, lambda: made.work(0))

    def test_loaders(self):
        made = disks.Disk()
        first = loaders.Loader(made, SCHEMA, JOB, "a")
        first.feed("1,\n2,\n3")
        state = lambda: (made.files(), made.head, made.writes(), first.position, first.waiting, first.status,
                         first.counts, first.rejects, first.discards)
        wrong = jobs.Job(FORM, JOB.targets, size=0)
        self.refuse(state, lambda: first.feed("\t"), lambda: first.feed(None),
                    lambda: loaders.Loader(made, SCHEMA, wrong, "a"), lambda: loaders.Loader(made, SCHEMA, JOB, "A"),
                    lambda: loaders.Loader(made, SCHEMA, JOB, "b"), lambda: loaders.give_up(made, SCHEMA, "b"))
        first.finish()
        self.refuse(state, lambda: first.feed(""), first.finish, lambda: loaders.give_up(made, SCHEMA, "a"))


if __name__ == "__main__":
    unittest.main()
