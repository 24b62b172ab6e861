"""Databases and snapshots without a load: 7.1 to 7.3, and the interface's section on them."""

import unittest

from bulkload.schemas import Column, Schema, Table
from bulkload.tables import Database, Snapshot
from tests.helpers import OBJECTS, ODDITIES, caught

INT = ("int", 0, 99)
CITY = Table("city", (Column("name", ("text", 9)), Column("id", INT), Column("far", ("truth",)),
                      Column("n", INT, nullable=True, default=("next", "q"))), ("far", "id"),
             tallies=(("sums", ("far",), None, "many"),))
SUMS = Table("sums", (Column("many", INT), Column("far", ("truth",))), ("far",))
SCHEMA = Schema((CITY, SUMS, Table("other", (Column("k", INT),), ("k",))))
ROWS = (("Rome", 5, True, None), ("Oslo", 10, False, 3), ("Bern", 1, True, 1), ("Lima", 99, False, None))


def filled():
    """A database as loads leave it, by its contents."""
    database = Database(SCHEMA)
    for row in ROWS:
        database._contents.tables["city"][(row[2], row[1])] = row
    database._contents.numbers["q"] = 3
    database._contents.handled = 2
    return database


class EmptyTest(unittest.TestCase):
    def holders(self):
        database = Database(schema=SCHEMA)
        return (database, database.snapshot())

    def test_classes(self):
        self.assertIs(type(self.holders()[1]), Snapshot)
        for owner in (Database, Snapshot):
            for name in ("rows", "row", "key_of", "last_number", "version", "schema"):
                self.assertIn(name, vars(owner))
            self.assertIsInstance(vars(owner)["version"], property)
            self.assertIsInstance(vars(owner)["schema"], property)
        self.assertIn("snapshot", vars(Database))

    def test_without_rows(self):
        for holder in self.holders():
            for place in SCHEMA.titles:
                self.assertEqual(holder.rows(place), [])
                self.assertEqual(holder.rows(place=place), [])
            self.assertIsNone(holder.row("city", (True, 5)))
            self.assertIsNone(holder.row(key=(0,), place="other"))
            self.assertIsNone(holder.row("sums", (False,)))
            self.assertEqual(holder.version, 0)
            self.assertIs(holder.schema, SCHEMA)
            for sequence in ("q", "a", "z" * 20):
                self.assertEqual(holder.last_number(sequence), 0)
            self.assertEqual(holder.last_number(sequence="q"), 0)

    def test_keys(self):
        for holder in self.holders():
            for row in ROWS:
                self.assertEqual(holder.key_of("city", row), (row[2], row[1]))
            self.assertEqual(holder.key_of(row=(7, False), place="sums"), (False,))
            self.assertEqual(holder.key_of("other", (0,)), (0,))

    def test_no_table(self):
        for holder in self.holders():
            for place in ODDITIES + OBJECTS + ("City", "", ("city",), ["city"], b"city"):
                for call, more in ((holder.rows, ()), (holder.row, ((1,),)), (holder.key_of, ((1,),))):
                    with self.assertRaises(ValueError) as told:
                        call(place, *more)
                    self.assertEqual(type(told.exception).__name__, "NoTable")
                    self.assertIs(told.exception.place, place)
            self.assertEqual(caught(holder.row, "zz", None), ("NoTable", "zz"))
            self.assertEqual(caught(holder.key_of, "zz", None), ("NoTable", "zz"))

    def test_results_belong_to_the_caller(self):
        for holder in self.holders():
            rows = holder.rows("other")
            rows.append((1,))
            self.assertEqual(holder.rows("other"), [])
            self.assertIsNone(holder.row("other", (1,)))
            self.assertIsNot(holder.rows("other"), holder.rows("other"))

    def test_properties_are_only_read(self):
        for holder in self.holders():
            for name in ("version", "schema"):
                with self.assertRaises(AttributeError):
                    setattr(holder, name, 5)

    def test_databases_are_apart(self):
        one, other = Database(SCHEMA), filled()
        self.assertEqual((one.rows("city"), one.version, one.last_number("q")), ([], 0, 0))
        self.assertEqual(len(other.rows("city")), 4)


class FilledTest(unittest.TestCase):
    def holders(self):
        database = filled()
        return (database, database.snapshot(), filled().snapshot())

    def test_rows_in_the_order_of_their_keys(self):
        """7.2."""
        for holder in self.holders():
            self.assertEqual(holder.rows("city"), [ROWS[1], ROWS[3], ROWS[2], ROWS[0]])
            self.assertEqual(holder.rows("sums"), [])

    def test_row(self):
        for holder in self.holders():
            for row in ROWS:
                self.assertEqual(holder.row("city", holder.key_of("city", row)), row)
            self.assertIsNone(holder.row("city", (True, 10)))
            self.assertEqual((holder.version, holder.last_number("q"), holder.last_number("r")), (2, 3, 0))

    def test_results_belong_to_the_caller(self):
        for holder in self.holders():
            rows = holder.rows("city")
            del rows[0]
            rows.reverse()
            self.assertEqual(holder.rows("city"), [ROWS[1], ROWS[3], ROWS[2], ROWS[0]])

    def test_a_snapshot_stays(self):
        """7.1."""
        database = filled()
        before = database.snapshot()
        del database._contents.tables["city"][(True, 5)]
        database._contents.tables["other"][(1,)] = (1,)
        database._contents.numbers["q"] = 4
        database._contents.handled = 3
        after = database.snapshot()
        self.assertEqual((len(before.rows("city")), before.rows("other")), (4, []))
        self.assertEqual((before.version, before.last_number("q")), (2, 3))
        self.assertEqual((len(after.rows("city")), after.rows("other")), (3, [(1,)]))
        self.assertEqual((after.version, after.last_number("q")), (3, 4))
        self.assertEqual(before.row("city", (True, 5)), ROWS[0])
        self.assertIsNone(after.row("city", (True, 5)))


if __name__ == "__main__":
    unittest.main()
