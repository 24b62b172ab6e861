"""Tallies and totals through loads: 6.4 to 6.6, and the last sentences of 9.3 (f) and of 9.4."""

import unittest

from bulkload.schemas import Column, Schema, Table
from bulkload.tables import Database
from tests.handling_setting import DIGIT, SIGNED, column, free, put, run, target

TITLES = ("k", "g", "h", "w")


def database_of(tallies, totals=(("n", ("int", 0, 9)),), key=("g",), own=TITLES):
    """A database with a table "t" and its tally table "sums"."""
    kinds = {"k": DIGIT, "g": DIGIT, "h": DIGIT, "w": SIGNED}
    table = Table("t", tuple(Column(title, kinds[title], nullable=title != "k") for title in own), ("k",),
                  tallies=tallies)
    columns = tuple(column(title) for title in key) + tuple(Column(title, kind) for title, kind in totals)
    return Database(Schema((table, Table("sums", columns, key))))


def play(database, *lines, rule="merge", **settings):
    """What the records came to: the word or the reason of each."""
    targets = (target("remove", "t", ("k",), condition=("is", ("field", "g"), "-")),
               target(rule, "t", TITLES))
    result = run(database, TITLES, targets, "".join(line + "\n" for line in lines), **settings)
    return [outcome[1] if outcome[4] is None else outcome[4] for outcome in result.outcomes]


class SumTest(unittest.TestCase):
    def test_amounts(self):
        """A missing amount is 0, None is 1, and a row with a missing column counts nowhere."""
        database = database_of((("sums", ("g",), "w", "n"), ("sums", ("g",), None, "m")),
                               (("m", DIGIT), ("n", SIGNED)))
        play(database, "1,1,,4", "2,1,,-1", "3,1,,", "4,2,,", "5,,,7")
        self.assertEqual(database.rows("sums"), [(1, 3, 3), (2, 1, 0)])
        self.assertEqual(database.row("sums", (1,)), (1, 3, 3))
        self.assertIsNone(database.row("sums", (5,)))

    def test_several_columns(self):
        """In the order of the key of the tally table."""
        database = database_of((("sums", ("h", "g"), "w", "n"),), key=("g", "h"))
        play(database, "1,1,2,4", "2,2,1,5", "3,1,2,1", "4,1,,9", "5,,1,9")
        self.assertEqual(database.rows("sums"), [(1, 2, 5), (2, 1, 5)])

    def test_one_total_of_two_tallies(self):
        database = database_of((("sums", ("g",), "w", "n"), ("sums", ("h",), "w", "n")))
        play(database, "1,1,2,4", "2,2,2,1")
        self.assertEqual(database.rows("sums"), [(1, 4), (2, 6)])
        play(database, "2,-,,")
        self.assertEqual(database.rows("sums"), [(1, 4), (2, 4)])
        play(database, "1,-,,")
        self.assertEqual(database.rows("sums"), [])

    def test_tallies_of_several_tables(self):
        sums = Table("sums", (column("n", SIGNED), column("g"), column("m")), ("g",))
        tables = (Table("a", (column("k"), free("w", SIGNED)), ("k",), tallies=(("sums", ("k",), "w", "n"),)), sums,
                  Table("b", (column("k"), column("g")), ("k",), tallies=(("sums", ("g",), None, "m"),)))
        database = Database(Schema(tables))
        put(database, "a", ("1", "-5"), ("2", ""))
        put(database, "b", ("1", "1"), ("2", "1"), ("3", "7"))
        self.assertEqual(database.rows("sums"), [(-5, 1, 2), (0, 2, 0), (0, 7, 1)])
        run(database, ("k",), (target("remove", "a", ("k",)),), "1\n2\n")
        self.assertEqual(database.rows("sums"), [(0, 1, 2), (0, 7, 1)])

    def test_rows_that_change(self):
        database = database_of((("sums", ("g",), "w", "n"),))
        for line, rows in (("1,1,,4", [(1, 4)]), ("1,2,,", [(2, 4)]), ("1,,,5", [(2, 5)]), ("2,2,,3", [(2, 8)]),
                           ("1,3,,0", [(2, 3), (3, 0)]), ("1,-,,", [(2, 3)])):
            play(database, line)
            self.assertEqual(database.rows("sums"), rows)
        play(database, "2,,,4", rule="replace")
        self.assertEqual(database.rows("sums"), [])

    def test_a_row_with_a_total_of_zero(self):
        """A row is there as long as something counts."""
        database = database_of((("sums", ("g",), "w", "n"),))
        play(database, "1,1,,0", "2,1,,")
        self.assertEqual(database.rows("sums"), [(1, 0)])
        play(database, "1,-,,")
        self.assertEqual(database.rows("sums"), [(1, 0)])
        play(database, "2,-,,")
        self.assertEqual(database.rows("sums"), [])


class KindTest(unittest.TestCase):
    def test_bounds(self):
        database = database_of((("sums", ("g",), "w", "n"),))
        self.assertEqual(play(database, "1,1,,9", "2,1,,1", "3,1,,0", "4,2,,-1", "5,1,,-9", "6,1,,-1"),
                         ["loaded", ("tally", 0), "loaded", ("tally", 0), "loaded", ("tally", 0)])
        self.assertEqual(database.rows("sums"), [(1, 0)])

    def test_the_old_row_counts_no_more_first(self):
        database = database_of((("sums", ("g",), "w", "n"),))
        self.assertEqual(play(database, "1,1,,9", "1,1,,8", "1,1,,9", "1,,,2"), ["loaded", "merged", "merged", "merged"])
        self.assertEqual(database.rows("sums"), [(1, 2)])

    def test_the_total_of_the_old_row(self):
        """Where another row still counts; a row that is not there any more is not looked at."""
        database = database_of((("sums", ("g",), "w", "n"),))
        self.assertEqual(play(database, "1,1,,9", "2,1,,-5", "1,2,,", "2,-,,", "1,2,,", "2,2,,-9"),
                         ["loaded", "loaded", ("tally", 0), "removed", "merged", "loaded"])
        self.assertEqual(database.rows("sums"), [(2, 0)])
        self.assertEqual(play(database, "1,-,,", "2,2,,0", "1,-,,"), [("tally", 0), "merged", "removed"])

    def test_the_first_tally(self):
        """Index by index, for the new and the old row; when both have counted in all of them."""
        small = ("int", 0, 3)
        tallies = (("sums", ("g",), None, "a"), ("sums", ("h",), "w", "b"), ("sums", ("g",), "w", "c"))
        database = database_of(tallies, (("a", ("int", 0, 2)), ("b", small), ("c", small)))
        self.assertEqual(play(database, "1,1,5,3", "2,1,6,0", "3,1,5,9", "3,2,5,9", "3,1,,9", "3,2,,9", "3,2,6,3"),
                         ["loaded", "loaded", ("tally", 0), ("tally", 1), ("tally", 0), ("tally", 2), "loaded"])
        # The old row takes 3 from b of 6, as the new one has another h, and 1 stays there.
        self.assertEqual(play(database, "4,,6,-3"), ["loaded"])
        self.assertEqual(play(database, "3,,7,"), [("tally", 1)])

    def test_two_tallies_for_one_total(self):
        """All tallies count before the first one is looked at."""
        database = database_of((("sums", ("g",), "w", "n"), ("sums", ("h",), "k", "n")))
        self.assertEqual(play(database, "3,1,1,-3", "3,1,1,-4", "3,1,2,-3", "3,1,2,0"),
                         ["loaded", ("tally", 0), ("tally", 0), "merged"])
        self.assertEqual(database.rows("sums"), [(1, 0), (2, 3)])

    def test_removals(self):
        """9.4: the first tally whose total would be outside, in a row that is still there."""
        tallies = (("sums", ("g",), "w", "n"), ("sums", ("h",), "w", "m"))
        database = database_of(tallies, (("n", DIGIT), ("m", DIGIT)))
        self.assertEqual(play(database, "1,1,5,5", "2,1,6,0", "3,2,5,0", "2,,,-5", "1,-,,"),
                         ["loaded"] * 3 + [("tally", 1), "removed"])
        database = database_of(tallies, (("n", DIGIT), ("m", DIGIT)))
        self.assertEqual(play(database, "1,1,5,5", "2,1,5,-1", "1,-,,", "3,1,6,1", "1,-,,", "4,3,5,1", "1,-,,"),
                         ["loaded", "loaded", ("tally", 0), "loaded", ("tally", 1), "loaded", "removed"])
        self.assertEqual(database.rows("sums"), [(1, 0, 0), (3, 1, 0), (5, 0, 0), (6, 0, 1)])

    def test_a_rejected_unit_leaves_totals(self):
        database = database_of((("sums", ("g",), "w", "n"),))
        self.assertEqual(play(database, "1,1,,4", "2,2,,x", strict=True, size=2), [("unit", 2), ("value", "w", "number")])
        self.assertEqual(database.rows("sums"), [])
        self.assertEqual(play(database, "1,1,,4", "2,2,,x", "2,2,,3", strict=True, size=1),
                         ["loaded", ("value", "w", "number"), "loaded"])
        self.assertEqual(database.rows("sums"), [(1, 4), (2, 3)])


if __name__ == "__main__":
    unittest.main()
