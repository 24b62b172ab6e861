"""The examples of the interface, and those of README.md."""

import doctest
import pathlib
import unittest

from bulkload.courses import course_of, fault_in
from bulkload.disks import Disk
from bulkload.formats import Delimited, records
from bulkload.jobs import Job, Target
from bulkload.loaders import Loader, view
from bulkload.loads import load, trial
from bulkload.looks import blame, influence, load_order
from bulkload.pieces import joined, summary
from bulkload.schemas import Column, Schema, Table
from bulkload.tables import Database
from bulkload.values import convert, show

README = pathlib.Path(__file__).resolve().parent.parent / "README.md"


class ExamplesTest(unittest.TestCase):
    def test_values(self):
        price = ("decimal", 0, 99999, 2)
        told = (convert(price, "1.5"), show(price, 150), convert(("date",), "0001-02-01"), show(("date",), 3652059))
        self.assertEqual(repr(told), "(150, '1.5', 32, '9999-12-31')")

    def test_formats(self):
        found = records(Delimited(names=("a", "b")), 'x,"y, ""z"""\n1\n,""\n')
        self.assertEqual(repr(found), "[(1, 1, 'x,\"y, \"\"z\"\"\"\\n', ('x', 'y, \"z\"'), None), "
                         "(2, 2, '1\\n', None, 'fields'), (3, 3, ',\"\"\\n', (None, ''), None)]")

    def test_pieces(self):
        one, other = summary(Delimited(), 'a,"b\n'), summary(Delimited(), 'c"\nd')
        self.assertEqual((one, joined(one, other)), (
            (True, ('a,"b\n',), ('a,"b\n', '')), (False, ('a,"b\nc"\n', 'd'), ('a,"b\n', 'c"\nd'))))

    def test_loads(self):
        schema = Schema((Table("city", (Column("id", ("int", 1, 99)), Column("name", ("text", 20))), ("id",)),))
        target = Target("city", (("id", ("field", "a")), ("name", ("field", "b"))))
        database = Database(schema)
        result = load(database, Job(Delimited(names=("a", "b")), (target,)), "1,Rome\n2,Oslo\nx,Bern\n1,Lima\n")
        self.assertEqual(repr((database.rows("city"), result.outcomes[1:])), (
            "([(1, 'Rome'), (2, 'Oslo')], ((2, 'loaded', 'city', (2,), None, None, None), (3, 'rejected', 'city', None, "
            "('value', 'id', 'number'), 1, None), (4, 'rejected', 'city', (1,), ('key',), 1, 1)))"))

    def test_disks(self):
        disk = Disk(room=50)
        made = [disk.write("log", "one\n"), disk.sync("log"), disk.write("log", "two\n"), disk.swap("4")]
        self.assertEqual(made, [None] * 4)
        self.assertEqual(repr((disk.lost().files(), disk.lost({"log": 2}).read("log"), disk.writes()[1:])), (
            "({'log': 'one\\n'}, 'one\\ntw', (('sync', 'log'), ('write', 'log', 'two\\n'), ('swap', '4')))"))

    def test_loaders(self):
        schema = Schema((Table("a", (Column("k", ("int", 0, 9)), Column("w", ("text", 5))), ("k",)),))
        pairs = (("k", ("field", "k")), ("w", ("field", "w")))
        job = Job(Delimited(names=("k", "w")), (Target("a", pairs),), size=2)
        disk = Disk()
        first = Loader(disk, schema, job, "one")
        self.assertEqual((first.feed("1,x\n2,y\n3,"), first.position, first.waiting), (1, 8, 2))
        disk = disk.lost()
        second = Loader(disk, schema, job, "one")
        self.assertEqual((second.feed("3,z\n"), second.finish()["loaded"], view(disk, schema).database.rows("a")),
                         (0, 3, [(1, "x"), (2, "y"), (3, "z")]))

    def test_looks(self):
        columns = (Column("id", ("int", 1, 9)), Column("up", ("int", 1, 9), nullable=True))
        schema = Schema((Table("node", columns, ("id",), references=((("up",), "node", "end"),)),))
        pairs = (("id", ("field", "id")), ("up", ("field", "up")))
        job = Job(Delimited(names=("id", "up")), (Target("node", pairs),))
        result = trial(Database(schema), job, "1,2\n2,9\n3,\n")
        self.assertEqual([outcome[4:6] for outcome in result.outcomes],
                         [(("reference", 0, (2,)), 2), (("reference", 0, (9,)), 1), (None, None)])
        told = (blame(result, 1), influence(Database(schema), job, "1,2\n2,9\n3,\n", 2), load_order(schema))
        self.assertEqual(told, ((1, 2), (), (("node",),)))

    def test_courses(self):
        columns = (Column("k", ("int", 0, 99)), Column("to", ("int", 0, 99), nullable=True))
        schema = Schema((Table("t", columns, ("k",), references=((("to",), "t", "end"),)),))
        job = Job(Delimited(), (Target("t", (("k", ("field", "k")), ("to", ("field", "to")))),))
        course = course_of(Database(schema), job, "k,to\n1,2\n2,9\n1,\n")
        self.assertEqual(course[0], (
            ((1, "loaded", "t", (1,), None), (2, "loaded", "t", (2,), ("reference", 0, (9,))),
             (3, "rejected", "t", (1,), ("key",))), ((1, "loaded", "t", (1,), ("reference", 0, (2,))),), ()))
        told = ((((1, "loaded", "t", (1,), None),),),)
        self.assertEqual(fault_in(Database(schema), job, "k,to\n1,2\n", told), ("end", 0, 0, 0))

    def test_readme(self):
        found = doctest.testfile(str(README), module_relative=False)
        self.assertEqual(found.failed, 0)
        self.assertGreater(found.attempted, 10)


if __name__ == "__main__":
    unittest.main()
