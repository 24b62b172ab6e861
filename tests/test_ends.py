"""References with "end", and the runs of a unit: 9.2 and 9.5."""

import itertools
import unittest

from bulkload.courses import course_of
from bulkload.formats import Delimited
from bulkload.jobs import Job, Target
from bulkload.schemas import Column, Schema, Table
from bulkload.tables import Database
from tests.handling_setting import DIGIT, column, free, put, run, target

NODE = Table("node", (column("id"), free("up")), ("id",), references=((("up",), "node", "end"),))
TITLES = ("id", "up")


def node_database():
    return Database(Schema((NODE,)))


def play(database, *lines, rule="insert", titles=TITLES, **settings):
    """The outcomes from the reason on; None for a record that is not rejected."""
    text = "".join(line + "\n" for line in lines)
    result = run(database, titles, (target(rule, "node", titles),), text, **settings)
    return [outcome[4:] if outcome[1] == "rejected" else None for outcome in result.outcomes]


def lost(index, *key, run=1):
    return (("reference", index, key), run, None)


class ChainTest(unittest.TestCase):
    def test_rows_of_one_unit_refer_to_one_another(self):
        """In any order of the records, and in a ring."""
        for lines in itertools.permutations(("1,2", "2,3", "3,3", "4,1")):
            database = node_database()
            self.assertEqual(play(database, *lines), [None] * 4)
            self.assertEqual(database.rows("node"), [(1, 2), (2, 3), (3, 3), (4, 1)])
        database = node_database()
        self.assertEqual(play(database, "1,2", "2,3", "3,1"), [None] * 3)

    def test_chains_fall_from_run_to_run(self):
        """In any order: 1 refers to 2, and so on, and 4 to 9, which is not there."""
        lines = {"1,2": lost(0, 2, run=4), "2,3": lost(0, 3, run=3), "3,4": lost(0, 4, run=2), "4,9": lost(0, 9),
                 "5,5": None, "6,": None}
        for order in itertools.permutations(lines):
            database = node_database()
            self.assertEqual(play(database, *order), [lines[line] for line in order])
            self.assertEqual(database.rows("node"), [(5, 5), (6, None)])

    def test_in_units_of_one(self):
        """The same records: each refers only to what is there, or to itself."""
        database = node_database()
        self.assertEqual(play(database, "1,2", "2,2", "1,2", "3,1", "4,5", "5,4", size=1),
                         [lost(0, 2), None, None, None, lost(0, 5), lost(0, 4)])
        self.assertEqual(database.version, 6)

    def test_many_runs(self):
        """There are at most as many runs as records, and one more, which may have no records."""
        count = 9
        lines = [f"{at},{at + 1}" for at in range(count)]
        database = node_database()
        self.assertEqual([told[1] for told in play(database, *lines)], [count - at for at in range(count)])
        job = Job(Delimited(names=TITLES), (target("insert", "node", TITLES),), size=100)
        course = course_of(node_database(), job, "\n".join(lines))
        self.assertEqual([len(steps) for steps in course[0]], list(range(9, -1, -1)))

    def test_a_chain_of_a_hundred(self):
        table = Table("node", (column("id", ("int", 0, 999)), free("up", ("int", 0, 999))), ("id",),
                      references=((("up",), "node", "end"),))
        database = Database(Schema((table,)))
        told = play(database, *[f"{at},{at + 1}" for at in range(100)], size=100)
        self.assertEqual([reason[1] for reason in told], list(range(100, 0, -1)))

    def test_rows_that_were_there(self):
        database = node_database()
        self.assertEqual(play(database, "1,", "2,1"), [None, None])
        self.assertEqual(play(database, "3,2", "4,7"), [None, lost(0, 7)])


class RunTest(unittest.TestCase):
    """9.2: each run begins with the database as it was in front of the unit."""

    def test_what_fell_is_left_out(self):
        """Record 2 is rejected by record 1 in the first run, and stays so when record 1 is gone."""
        database = node_database()
        self.assertEqual(play(database, "1,9", "1,", "2,1"), [lost(0, 9), (("key",), 1, 1), lost(0, 1, run=2)])
        self.assertEqual((database.rows("node"), database.version), ([], 1))

    def test_rows_numbers_and_totals_begin_anew(self):
        columns = (column("id"), free("up"), column("s", ("int", 1, 3), default=("next", "q")), free("u"))
        table = Table("node", columns, ("id",), uniques=(("u",),), references=((("up",), "node", "end"),),
                      tallies=(("sums", ("u",), None, "n"),))
        sums = Table("sums", (column("u"), column("n", ("int", 0, 1))), ("u",))
        database = Database(Schema((table, sums)))
        titles = ("id", "up", "u")
        self.assertEqual(play(database, "1,9,1", "2,,2", "3,1,", "4,,3", titles=titles),
                         [lost(0, 9), None, lost(0, 1, run=2), (("value", "s", "range"), 1, None)])
        self.assertEqual(database.rows("node"), [(2, None, 1, 2)])
        self.assertEqual((database.rows("sums"), database.last_number("q")), ([(2, 1)], 1))

    def test_words_of_the_last_run(self):
        """Record 2 replaces a row in the first run, and loads it in the second one."""
        database = node_database()
        text = "1,9\n1,\n"
        job = Job(Delimited(names=TITLES), (target("replace", "node", TITLES),))
        course = course_of(database, job, text)
        self.assertEqual(course, ((((1, "loaded", "node", (1,), None), (2, "replaced", "node", (1,), None)),),))
        text = "1,9\n1,\n2,8\n"
        merge = Job(Delimited(names=TITLES), (target("merge", "node", TITLES),))
        course = course_of(database, merge, text)
        self.assertEqual(course, ((
            ((1, "loaded", "node", (1,), ("reference", 0, (9,))), (2, "merged", "node", (1,), None),
             (3, "loaded", "node", (2,), ("reference", 0, (8,)))),
            ((2, "loaded", "node", (1,), None),)),))

    def test_a_record_that_skipped_stays(self):
        """Record 2 skips in the first run, as row 1 is there, and loads it in the second one."""
        database = node_database()
        self.assertEqual(play(database, "1,9", "1,", rule="skip"), [lost(0, 9), None])
        self.assertEqual(database.rows("node"), [(1, None)])

    def test_without_end_references_there_is_one_run(self):
        table = Table("node", (column("id"), free("up")), ("id",), references=((("up",), "node", "now"),))
        job = Job(Delimited(names=TITLES), (target("insert", "node", TITLES),))
        course = course_of(Database(Schema((table,))), job, "1,2\n2,2\nx,\n2,\n")
        self.assertEqual([len(unit) for unit in course], [1])


class GiverTest(unittest.TestCase):
    """9.5: the record that last gave one of the reference's columns a value."""

    def test_merged_rows(self):
        """Another record than the one that made the row may be the one."""
        database = node_database()
        self.assertEqual(play(database, "1,1", "1,9", rule="merge"), [None, lost(0, 9)])
        self.assertEqual(database.rows("node"), [(1, 1)])
        self.assertEqual(play(database, "2,8", "2,", "2,7", "2,", rule="merge"), [lost(0, 8, run=2), None, lost(0, 7), None])
        self.assertEqual(database.rows("node"), [(1, 1), (2, None)])

    def test_a_merge_without_a_value_is_not_the_one(self):
        database = node_database()
        self.assertEqual(play(database, "1,9", "1,", rule="merge"), [lost(0, 9), None])
        self.assertEqual(database.rows("node"), [(1, None)])

    def test_a_later_record_repairs(self):
        """Rows are looked at as they are at the end."""
        database = node_database()
        self.assertEqual(play(database, "1,9", "1,1", rule="merge"), [None, None])
        self.assertEqual(play(database, "2,9", "2,", rule="replace"), [None, None])
        self.assertEqual(database.rows("node"), [(1, 1), (2, None)])

    def test_replacing_gives_all(self):
        """Also a column with its default."""
        table = Table("node", (column("id"), free("up", default=9), free("x")), ("id",),
                      references=((("up",), "node", "end"),))
        database = Database(Schema((table,)))
        self.assertEqual(play(database, "1,1", "1,", rule="replace"), [None, lost(0, 9)])
        database = Database(Schema((table,)))
        self.assertEqual(play(database, "1,1", "1,", rule="merge"), [None, None])
        self.assertEqual(play(Database(Schema((table,))), "1", titles=("id",)), [lost(0, 9)])

    def test_references_of_several_columns(self):
        """The last record that gave one of them; missing values refer to nothing."""
        base = Table("base", (column("a"), column("b")), ("a", "b"))
        table = Table("node", (column("id"), free("x"), free("y")), ("id",),
                      references=((("y", "x"), "base", "end"),))
        titles = ("id", "x", "y")
        for lines, told in (
                (("1,1,", "1,,2"), [None, lost(0, 2, 1)]),
                (("1,,2", "1,1,"), [None, lost(0, 2, 1)]),
                (("1,1,2", "1,,"), [lost(0, 2, 1), None]),
                (("1,1,", "1,2,"), [None, None]),
                (("1,5,5", "1,3,"), [lost(0, 5, 5, run=2), lost(0, 5, 3)]),
                (("1,5,4", "1,1,", "1,,1"), [lost(0, 4, 5, run=3), lost(0, 4, 1, run=2), lost(0, 1, 1)]),
                (("1,1,5", "1,,1", "1,,5"), [None, None, None])):
            database = Database(Schema((table, base)))
            put(database, "base", ("5", "1"))
            self.assertEqual(play(database, *lines, rule="merge", titles=titles), told, lines)

    def test_columns_of_the_key(self):
        """Each record that acts on a row gives its key."""
        base = Table("base", (column("a"),), ("a",))
        table = Table("node", (column("id"), free("x")), ("id",), references=((("id",), "base", "end"),))
        titles = ("id", "x")
        database = Database(Schema((table, base)))
        self.assertEqual(play(database, "1,1", "1,2", "1,", rule="merge", titles=titles),
                         [lost(0, 1, run=3), lost(0, 1, run=2), lost(0, 1)])
        put(database, "base", ("1",))
        self.assertEqual(play(database, "1,1", "1,2", rule="merge", titles=titles), [None, None])

    def test_the_least_index(self):
        """Of several references of which one record gave the columns; others can reject other records."""
        table = Table("node", (column("id"), free("x"), free("y")), ("id",),
                      references=((("y",), "node", "end"), (("x",), "node", "end"), (("y", "x"), "pair", "end")))
        pair = Table("pair", (column("a"), column("b")), ("a", "b"))
        titles = ("id", "x", "y")
        database = Database(Schema((table, pair)))
        self.assertEqual(play(database, "1,8,9", titles=titles), [lost(0, 9)])
        self.assertEqual(play(database, "1,8,1", titles=titles), [lost(1, 8)])
        self.assertEqual(play(database, "1,1,1", titles=titles), [lost(2, 1, 1)])
        self.assertEqual(play(database, "1,8,", "1,,9", rule="merge", titles=titles), [lost(1, 8), lost(0, 9)])
        self.assertEqual(play(database, "1,,9", "1,8,", rule="merge", titles=titles), [lost(0, 9), lost(1, 8)])

    def test_what_no_record_of_the_run_gave_is_not_looked_at(self):
        """A row that refers to nothing stays if a record changes another column: the row was so before."""
        database = Database(Schema((Table("node", (column("id"), free("up"), free("x")), ("id",),
                                          references=((("up",), "node", "end"),)),)))
        # No load leaves such a row; it is put here for the sentence in parentheses alone.
        database._contents.tables["node"][(1,)] = (1, 9, None)
        self.assertEqual(play(database, "1,3", rule="merge", titles=("id", "x")), [None])
        self.assertEqual(play(database, "1,8", rule="merge", titles=("id", "up")), [lost(0, 8)])

    def test_only_rows_that_were_put(self):
        database = node_database()
        play(database, "1,1")
        self.assertEqual(play(database, "1,9", rule="skip"), [None])
        self.assertEqual(play(database, "1,9"), [(("key",), 1, 0)])

    def test_end_beside_now(self):
        """The same reference at both moments."""
        base = Table("base", (column("a"),), ("a",))
        for moment, told in (("now", [lost(0, 2), None]), ("end", [None, None])):
            table = Table("node", (column("id"), free("up")), ("id",), references=((("up",), "base", moment),))
            database = Database(Schema((table, base)))
            targets = (target("insert", "base", ("a",), condition=("is", ("field", "to"), "b")),
                       Target("node", (("id", ("field", "a")), ("up", ("field", "up")))))
            result = run(database, ("to", "a", "up"), targets, "n,1,2\nb,2,\n")
            self.assertEqual([outcome[4:] if outcome[4] else None for outcome in result.outcomes], told)

    def test_a_removal_has_no_end(self):
        """And no reference with "end" leads to nothing behind it, as 9.4 looks at them."""
        database = node_database()
        play(database, "1,1", "2,1", "3,2")
        result = run(database, ("id",), (target("remove", "node", ("id",)),), "2\n3\n2\n1\n")
        self.assertEqual([outcome[4] for outcome in result.outcomes],
                         [("referred", "node", 0), None, None, None])


class KindTest(unittest.TestCase):
    def test_alike_kinds(self):
        """Keys meet by their values, also where the kinds have other bounds."""
        base = Table("base", (Column("k", ("decimal", 0, 99, 1)), Column("t", ("text", 9))), ("k", "t"))
        table = Table("node", (column("id", DIGIT), Column("a", ("text", 2), nullable=True),
                               Column("b", ("decimal", -50, 50, 1), nullable=True)), ("id",),
                      references=((("b", "a"), "base", "end"),))
        database = Database(Schema((base, table)))
        put(database, "base", ("1.5", "x"), ("2", "yyy"))
        self.assertEqual(play(database, "1,x,1.50", "2,y,2", "3,x,", titles=("id", "a", "b")),
                         [(("value", "b", "places"), 1, None), lost(0, 20, "y"), None])
        self.assertEqual(play(database, "1,x,1.5", titles=("id", "a", "b")), [None])


if __name__ == "__main__":
    unittest.main()
