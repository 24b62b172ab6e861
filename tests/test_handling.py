"""How a record is handled: 9.3, 9.4, and 9.7."""

import unittest

from bulkload.formats import Delimited
from bulkload.jobs import Job, Target
from bulkload.loads import load
from bulkload.schemas import Column, Schema, Table
from bulkload.tables import Database
from tests.handling_setting import (DIGIT, FORM, NAMES, SCHEMA, all_rows, column, free, line, one, put, run, target,
                                    whole)

# From top to bottom each step repairs what was at fault first; the reason is that of the record so far.
BEGIN = (
    ({"n": "x", "k": "x", "c": "10", "r": "7", "u": "5", "g": "1", "w": "9"}, ("value", "n", "number"), False),
    ({"n": "", "s": "3"}, ("value", "k", "number"), False),
    ({"k": ""}, ("value", "c", "range"), False),
    ({"c": "9"}, ("value", "s", "range"), False),
    ({"s": ""}, ("missing", "k"), False),
)
NEW_ROW = (
    ({}, ("value", "s", "range"), True),
    ({"s": "1"}, ("missing", "n"), True),
)
ROW = (
    ({"n": "1"}, ("check", "small"), True),
    ({"c": ""}, ("reference", 0, (7,)), True),
    ({"r": "1"}, ("unique", 0), True),
    ({"u": "6"}, ("tally", 0), True),
)


def setting():
    """Rows 1 and 3 of "main"; the sequence q is at its end."""
    database = Database(SCHEMA)
    put(database, "base", ("1",))
    put(database, "main", ("1", "1", "", "", "5", "1", "5", ""), ("1", "3", "", "", "8", "2", "1", ""))
    return database


class LadderTest(unittest.TestCase):
    """Each reason ahead of the next one."""

    def climb(self, rule, key, steps, word):
        database = setting()
        before = whole(database)
        fields = {}
        for repaired, reason, has_key in steps:
            fields.update(repaired)
            if has_key:
                fields["k"] = key
            told = ("rejected", "main", (int(key),) if has_key else None, reason, 1, None)
            if reason == ("unique", 0):
                told = told[:-1] + (0,)
            self.assertEqual(one(database, rule, **fields), told)
            self.assertEqual(whole(database), before)
        fields.update({"w": "4", "k": key})
        self.assertEqual(one(database, rule, **fields), (word, "main", (int(key),), None, None, None))
        return database

    def test_without_an_old_row(self):
        for rule in ("insert", "skip", "replace", "merge"):
            database = self.climb(rule, "2", BEGIN + NEW_ROW + ROW, "loaded")
            self.assertEqual(database.row("main", (2,)), (1, 2, None, 1, 6, 1, 4, 1))
            self.assertEqual(database.rows("sums"), [(1, 9), (2, 1)])

    def test_replace_an_old_row(self):
        database = self.climb("replace", "3", BEGIN + NEW_ROW + ROW, "replaced")
        self.assertEqual(database.row("main", (3,)), (1, 3, None, 1, 6, 1, 4, 1))
        self.assertEqual(database.rows("sums"), [(1, 9)])

    def test_merge_and_change_an_old_row(self):
        """What is missing is that of the old row, so neither a sequence nor a missing value is at fault."""
        steps = BEGIN + ROW
        for rule, word in (("merge", "merged"), ("change", "changed")):
            database = self.climb(rule, "3", steps, word)
            self.assertEqual(database.row("main", (3,)), (1, 3, None, 1, 6, 1, 4, 2))

    def test_insert_and_skip_with_an_old_row(self):
        """Nothing behind the old row is looked at."""
        for rule, word, reason, way in (("insert", "rejected", ("key",), 0), ("skip", "skipped", None, None)):
            database = setting()
            before = whole(database)
            fields = {}
            for repaired, expected, has_key in BEGIN:
                fields.update(repaired)
                self.assertEqual(one(database, rule, **fields)[3], expected)
            for repaired, _, _ in (({}, None, None),) + NEW_ROW + ROW:
                fields.update(repaired, k="3")
                told = (word, "main", (3,), reason, 1 if reason else None, way)
                self.assertEqual(one(database, rule, **fields), told)
            self.assertEqual(whole(database), before)

    def test_change_without_an_old_row(self):
        database = setting()
        before = whole(database)
        fields = {}
        for repaired, expected, _ in BEGIN:
            fields.update(repaired)
            self.assertEqual(one(database, "change", **fields)[3], expected)
        for repaired, _, _ in NEW_ROW + ROW:
            fields.update(repaired, k="2")
            self.assertEqual(one(database, "change", **fields), ("rejected", "main", (2,), ("absent",), 1, None))
        self.assertEqual(whole(database), before)

    def test_faults_of_the_format(self):
        """(a): ahead of all others; such a record goes to no target."""
        for rule in ("insert", "skip", "replace", "merge", "change"):
            database = setting()
            result = load(database, Job(FORM, (target(rule),)), '1,2\nx,"y,x\n')
            self.assertEqual([outcome[1:] for outcome in result.outcomes], [
                ("rejected", None, None, ("format", "fields"), 1, None),
                ("rejected", None, None, ("format", "quote"), 1, None)])

    def test_discarded(self):
        database = setting()
        never = target(condition=("not", ("always",)))
        result = load(database, Job(FORM, (never,)), line(n="x") + "1\n")
        self.assertEqual(result.outcomes, ((1, "discarded", None, None, None, None, None),
                                           (2, "rejected", None, None, ("format", "fields"), 1, None)))

    def test_remove(self):
        """9.4: absent, then referred, then tally."""
        database = setting()
        # The total of the key 4 is right only as long as the row 5 is there.
        put(database, "main", ("1", "5", "", "", "", "4", "7", "1"), ("1", "6", "", "", "", "4", "-5", "1"))
        put(database, "child", ("1", "5"))
        before = whole(database)
        for fields, key, reason in (
                ({"k": "x"}, None, ("value", "k", "number")), ({"k": ""}, None, ("missing", "k")),
                ({"k": "2"}, (2,), ("absent",)), ({"k": "5"}, (5,), ("referred", "child", 0))):
            self.assertEqual(one(database, "remove", **fields), ("rejected", "main", key, reason, 1, None))
        self.assertEqual(whole(database), before)
        put(database, "child", ("1", ""))
        before = whole(database)
        self.assertEqual(one(database, "remove", k="5"), ("rejected", "main", (5,), ("tally", 0), 1, None))
        self.assertEqual(whole(database), before)
        self.assertEqual(one(database, "remove", k="6"), ("removed", "main", (6,), None, None, None))
        self.assertEqual(one(database, "remove", k="5"), ("removed", "main", (5,), None, None, None))
        self.assertEqual(database.rows("sums"), [(1, 5), (2, 1)])


class ValueTest(unittest.TestCase):
    """9.3 (b) and (c)."""

    def test_order_of_the_table(self):
        """Not that of the target."""
        schema = Schema((Table("t", (column("a"), column("k"), column("b"), column("l")), ("l", "k")),))
        pairs = tuple((title, ("field", title)) for title in ("l", "b", "k", "a"))
        for fields, told in (
                ("x,x,x,x", (None, ("value", "a", "number"))), ("1,x,x,x", (None, ("value", "k", "number"))),
                ("1,1,x,x", (None, ("value", "b", "number"))), ("1,1,x,2", ((2, 1), ("value", "b", "number"))),
                ("x,1,1,2", ((2, 1), ("value", "a", "number"))), ("1,1,1,x", (None, ("value", "l", "number"))),
                ("1,,1,", (None, ("missing", "l"))), ("1,,1,2", (None, ("missing", "k"))),
                ("1,3,1,", (None, ("missing", "l"))), ("x,,1,2", (None, ("value", "a", "number"))),
                ("1,3,1,2", ((2, 3), None))):
            result = run(Database(schema), ("a", "k", "b", "l"), (Target("t", pairs),), fields + "\n")
            self.assertEqual(result.outcomes[0][3:5], told)

    def test_only_named_columns(self):
        """A column that is not named is missing in all records, and takes its default."""
        columns = (column("k"), column("a", default=7), free("b"), Column("c", ("truth",), nullable=True, default=True))
        schema = Schema((Table("t", columns, ("k",)),))
        database = Database(schema)
        run(database, ("k", "a"), (target("insert", "t", ("k",)),), "1,x\n")
        self.assertEqual(database.rows("t"), [(1, 7, None, True)])

    def test_causes(self):
        kinds = (("int", 0, 9), ("decimal", 0, 9, 1), ("text", 1), ("choice", ("a",)), ("truth",), ("date",))
        for kind, text, cause in zip(kinds, ("a", "1.25", "ab", "b", "Yes", "2001-02-29"),
                                     ("number", "places", "length", "choice", "truth", "date")):
            schema = Schema((Table("t", (column("k"), Column("v", kind)), ("k",)),))
            result = run(Database(schema), ("k", "v"), (target("insert", "t", ("k", "v")),), f"1,{text}\n")
            self.assertEqual(result.outcomes[0][3:5], ((1,), ("value", "v", cause)))

    def test_expressions(self):
        """The texts of expressions are converted, with the record's number."""
        pairs = (("k", ("number",)), ("w", ("first", ("field", "b"), ("join", ("const", "no"), ("number",)))))
        schema = Schema((Table("t", (column("k"), free("w", ("text", 9))), ("k",)),))
        database = Database(schema)
        job = Job(Delimited(names=("b",)), (Target("t", pairs),), skip_first=1)
        load(database, job, "q\n\nx\n")
        self.assertEqual(database.rows("t"), [(2, "no2"), (3, "x")])


class DefaultTest(unittest.TestCase):
    """9.3 (e)."""

    columns = (column("k"), free("a", default=5), free("b"), free("c", ("text", 3), default="x"))
    schema = Schema((Table("t", columns, ("k",)),))

    def rows(self, rule, titles, old, new):
        database = Database(self.schema)
        if old is not None:
            put(database, "t", old)
        result = run(database, titles, (target(rule, "t", titles),), new + "\n")
        return (result.outcomes[0][1], database.row("t", (1,)))

    def test_no_old_row(self):
        for rule in ("insert", "skip", "replace", "merge"):
            self.assertEqual(self.rows(rule, ("k", "a", "b"), None, "1,,"), ("loaded", (1, 5, None, "x")))
            self.assertEqual(self.rows(rule, ("k",), None, "1"), ("loaded", (1, 5, None, "x")))
            self.assertEqual(self.rows(rule, ("k", "a", "b", "c"), None, '1,2,3,""'), ("loaded", (1, 2, 3, "")))

    def test_replace(self):
        """Defaults, also of columns that the target does not name."""
        self.assertEqual(self.rows("replace", ("k", "b"), ("1", "2", "3", "y"), "1,4"), ("replaced", (1, 5, 4, "x")))
        self.assertEqual(self.rows("replace", ("k", "a", "b"), ("1", "2", "3", "y"), "1,,"),
                         ("replaced", (1, 5, None, "x")))

    def test_merge_and_change(self):
        for rule, word in (("merge", "merged"), ("change", "changed")):
            self.assertEqual(self.rows(rule, ("k", "b"), ("1", "2", "3", "y"), "1,4"), (word, (1, 2, 4, "y")))
            self.assertEqual(self.rows(rule, ("k", "a", "b"), ("1", "2", "3", "y"), "1,,"), (word, (1, 2, 3, "y")))
            self.assertEqual(self.rows(rule, ("k", "c"), ("1", "2", "3", "y"), '1,""'), (word, (1, 2, 3, "")))

    def test_a_merged_row_keeps_a_missing_value(self):
        database = Database(self.schema)
        contents = database._contents
        contents.tables["t"][(1,)] = (1, None, 3, None)
        run(database, ("k", "b"), (target("merge", "t", ("k", "b")),), "1,4\n")
        self.assertEqual(database.rows("t"), [(1, None, 4, None)])

    def test_a_missing_value_that_must_be_there(self):
        """(f): the first column in the order of the table."""
        schema = Schema((Table("t", (column("b"), column("k"), column("a")), ("k",)),))
        for text, reason in ((",1,", ("missing", "b")), ("1,1,", ("missing", "a"))):
            result = run(Database(schema), ("b", "k", "a"), (target("insert", "t", ("a", "k", "b")),), text + "\n")
            self.assertEqual(result.outcomes[0][3:5], ((1,), reason))


class SequenceTest(unittest.TestCase):
    """6.1, 7.1 and 9.3 (e)."""

    columns = (column("k"), column("a", ("int", 1, 4), default=("next", "q")),
               column("b", ("int", 1, 9), default=("next", "q")), column("c", ("int", 0, 9), default=("next", "s")),
               free("u"))
    schema = Schema((Table("t", columns, ("k",), uniques=(("u",),)),))
    titles = ("k", "a", "b", "c", "u")

    def play(self, *lines, rule="insert", database=None, **settings):
        database = Database(self.schema) if database is None else database
        result = run(database, self.titles, (target(rule, "t", self.titles),), "".join(lines), **settings)
        return database, [outcome[1] if outcome[4] is None else outcome[4] for outcome in result.outcomes]

    def test_column_by_column(self):
        database, words = self.play("1,,,,\n", "2,,7,,\n", "3,1,,,\n", "4,1,1,9,\n")
        self.assertEqual(words, ["loaded"] * 4)
        self.assertEqual(database.rows("t"), [(1, 1, 2, 1, None), (2, 3, 7, 2, None), (3, 1, 4, 3, None),
                                              (4, 1, 1, 9, None)])
        self.assertEqual((database.last_number("q"), database.last_number("s")), (4, 3))

    def test_the_first_number_that_does_not_fit(self):
        database, words = self.play("1,,,,\n", "2,,,,\n", "3,,,,\n", "4,1,,,\n")
        self.assertEqual(words, ["loaded", "loaded", ("value", "a", "range"), "loaded"])
        self.assertEqual(database.row("t", (4,)), (4, 1, 5, 3, None))

    def test_a_later_column_does_not_fit(self):
        """The number of the first one is not taken."""
        columns = (column("k"), column("a", ("int", 1, 9), default=("next", "q")),
                   column("b", ("int", 1, 1), default=("next", "q")))
        database = Database(Schema((Table("t", columns, ("k",)),)))
        result = run(database, ("k", "a"), (target("insert", "t", ("k", "a")),), "1,\n2,5\n3,\n")
        self.assertEqual([outcome[4] for outcome in result.outcomes],
                         [("value", "b", "range"), None, ("value", "b", "range")])
        self.assertEqual((database.rows("t"), database.last_number("q")), ([(2, 5, 1)], 1))

    def test_numbers_below_the_kind(self):
        columns = (column("k"), column("a", ("int", 3, 9), default=("next", "q")))
        database = Database(Schema((Table("t", columns, ("k",)),)))
        result = run(database, ("k",), (target("insert", "t", ("k",)),), "1\n2\n")
        self.assertEqual([outcome[4] for outcome in result.outcomes], [("value", "a", "range")] * 2)
        self.assertEqual((database.rows("t"), database.last_number("q")), ([], 0))

    def test_a_rejected_record_takes_none(self):
        for size in (1, 10):
            database, words = self.play("1,,,,5\n", "2,,,,5\n", "3,,,,6\n", size=size)
            self.assertEqual(words, ["loaded", ("unique", 0), "loaded"])
            self.assertEqual(database.rows("t"), [(1, 1, 2, 1, 5), (3, 3, 4, 2, 6)])

    def test_a_value_that_is_given_does_not_move_the_sequence(self):
        database, _ = self.play("1,3,3,3,\n", "2,,,,\n")
        self.assertEqual(database.rows("t"), [(1, 3, 3, 3, None), (2, 1, 2, 1, None)])

    def test_old_rows(self):
        database, _ = self.play("1,,,,\n")
        for rule, word, row in (("merge", "merged", (1, 1, 2, 1, 4)), ("change", "changed", (1, 1, 2, 1, 5)),
                                ("skip", "skipped", (1, 1, 2, 1, 5)), ("replace", "replaced", (1, 3, 4, 2, 7))):
            fields = {"merge": "1,,,,4\n", "change": "1,,,,5\n", "skip": "1,,,,6\n", "replace": "1,,,,7\n"}[rule]
            self.assertEqual(self.play(fields, rule=rule, database=database)[1], [word])
            self.assertEqual(database.rows("t"), [row])

    def test_over_several_tables(self):
        """A sequence is one for all tables of the schema."""
        columns = (column("k"), column("a", DIGIT, default=("next", "q")))
        schema = Schema((Table("t", columns, ("k",)), Table("v", columns, ("k",))))
        database = Database(schema)
        targets = (target("insert", "t", ("k",), condition=("is", ("field", "to"), "t")), target("insert", "v", ("k",)))
        run(database, ("to", "k"), targets, "t,1\nv,1\nt,2\nv,1\nv,2\n")
        self.assertEqual((database.rows("t"), database.rows("v")), ([(1, 1), (2, 3)], [(1, 2), (2, 4)]))


class RuleTest(unittest.TestCase):
    """9.3 (f): checks, references and uniques of rows."""

    def test_checks_in_their_order(self):
        less = ("less", ("column", "a"), ("column", "b"))
        checks = (("one", less), ("two", ("not", ("same", ("column", "a"), ("value", 3)))), ("three", ("not", less)))
        schema = Schema((Table("t", (column("k"), free("a"), free("b")), ("k",), checks=checks),))
        for fields, reason in (("1,5,4", ("check", "one")), ("1,3,4", ("check", "two")), ("1,2,4", ("check", "three")),
                               ("1,,4", None), ("1,3,", ("check", "two")), ("1,,", None)):
            result = run(Database(schema), ("k", "a", "b"), (target("insert", "t", ("k", "a", "b")),), fields + "\n")
            self.assertEqual(result.outcomes[0][4], reason)

    def test_checks_of_the_new_row(self):
        """Also of what a merged row keeps."""
        checks = (("one", ("less", ("column", "a"), ("column", "b"))),)
        database = Database(Schema((Table("t", (column("k"), free("a"), free("b")), ("k",), checks=checks),)))
        put(database, "t", ("1", "2", "4"))
        result = run(database, ("k", "b"), (target("merge", "t", ("k", "b")),), "1,2\n1,3\n")
        self.assertEqual([outcome[4] for outcome in result.outcomes], [("check", "one"), None])

    def test_references_now(self):
        """The first one; the own row is there; a missing value refers to nothing."""
        pair = Table("pair", (column("x"), column("y")), ("y", "x"))
        table = Table("t", (column("k"), free("a"), free("b")), ("k",),
                      references=((("a", "b"), "pair", "now"), (("a",), "t", "now")))
        database = Database(Schema((table, pair)))
        put(database, "pair", ("2", "1"), ("3", "3"))
        titles = ("k", "a", "b")
        result = run(database, titles, (target("insert", "t", titles),),
                     "1,1,2\n2,2,1\n3,3,3\n4,3,2\n5,,1\n6,1,\n7,8,\n")
        self.assertEqual([outcome[4] for outcome in result.outcomes], [
            None, ("reference", 0, (2, 1)), None, ("reference", 0, (3, 2)), None, None, ("reference", 1, (8,))])

    def test_a_row_that_is_loaded_later_is_not_there_now(self):
        table = Table("t", (column("k"), free("a")), ("k",), references=((("a",), "t", "now"),))
        result = run(Database(Schema((table,))), ("k", "a"), (target("insert", "t", ("k", "a")),), "1,2\n2,\n3,2\n")
        self.assertEqual([outcome[1] for outcome in result.outcomes], ["rejected", "loaded", "loaded"])
        self.assertEqual(result.outcomes[0][3:], ((1,), ("reference", 0, (2,)), 1, None))

    def test_uniques(self):
        """The first one that is shared with another row; not with the old one; not with missing values."""
        table = Table("t", (column("k"), free("a"), free("b")), ("k",), uniques=(("a", "b"), ("b",), ("k", "a")))
        titles = ("k", "a", "b")
        database = Database(Schema((table,)))
        put(database, "t", ("1", "1", "1"), ("2", "2", "2"))
        result = run(database, titles, (target("replace", "t", titles),),
                     "3,1,1\n3,2,1\n3,2,\n4,2,\n1,1,1\n1,2,2\n1,3,2\n2,2,3\n1,2,2\n")
        self.assertEqual([outcome[4] for outcome in result.outcomes], [
            ("unique", 0), ("unique", 1), None, None, None, ("unique", 0), ("unique", 1), None, None])
        self.assertEqual(database.rows("t"), [(1, 2, 2), (2, 2, 3), (3, 2, None), (4, 2, None)])

    def test_true_and_one(self):
        """Values of other kinds do not meet."""
        table = Table("t", (column("k"), Column("a", ("truth",)), free("b")), ("a", "k"), uniques=(("a", "b"),))
        titles = ("k", "a", "b")
        database = Database(Schema((table,)))
        result = run(database, titles, (target("insert", "t", titles),), "1,yes,1\n1,no,1\n0,yes,1\n")
        self.assertEqual([outcome[4] for outcome in result.outcomes], [None, None, ("unique", 0)])
        self.assertEqual(repr(database.rows("t")), "[(1, False, 1), (1, True, 1)]")


class WayTest(unittest.TestCase):
    """9.7."""

    table = Table("t", (column("k"), free("a"), free("b")), ("k",), uniques=(("a", "b"),))
    titles = ("k", "a", "b")

    def ways(self, rule, *lines, others="merge", size=10):
        database = Database(Schema((self.table,)))
        put(database, "t", ("9", "9", "9"))
        targets = (target(rule, "t", self.titles, condition=("is", ("field", "to"), "x")),
                   target(others, "t", self.titles))
        result = run(database, ("to",) + self.titles, targets, "".join(lines), size=size)
        return [(outcome[1] if outcome[4] is None else outcome[4][0], outcome[6]) for outcome in result.outcomes]

    def test_keys(self):
        """The record that loaded the row, not one that merged it."""
        lines = ("y,1,,\n", "y,1,2,\n", "x,1,,\n", "y,9,,8\n", "x,9,,\n")
        self.assertEqual(self.ways("insert", *lines), [
            ("loaded", None), ("merged", None), ("key", 1), ("merged", None), ("key", 0)])
        self.assertEqual(self.ways("insert", *lines, size=2)[2], ("key", 0))
        self.assertEqual(self.ways("insert", "y,9,1,1\n", "x,9,,\n", others="replace")[1], ("key", 0))

    def test_uniques(self):
        """The record that last gave a column of the unique a value in the other row."""
        lines = ("x,1,3,4\n", "y,1,,4\n", "x,2,3,4\n")
        self.assertEqual(self.ways("insert", *lines)[2], ("unique", 2))
        lines = ("x,1,3,4\n", "y,1,,\n", "x,2,3,4\n")
        self.assertEqual(self.ways("insert", *lines)[2], ("unique", 1))
        self.assertEqual(self.ways("insert", *lines, size=1)[2], ("unique", 0))
        self.assertEqual(self.ways("insert", "x,2,9,9\n")[0], ("unique", 0))
        self.assertEqual(self.ways("insert", "y,9,,7\n", "x,2,9,7\n")[1], ("unique", 1))
        self.assertEqual(self.ways("insert", "x,1,3,4\n", "y,1,3,4\n", "x,2,3,4\n", others="replace")[2], ("unique", 2))
        # A column that replacing leaves missing was given by the record that replaced the row, too.
        self.assertEqual(self.ways("replace", "x,1,3,4\n", "x,1,,\n", "x,1,3,4\n", "x,2,3,4\n")[3], ("unique", 3))

    def test_other_reasons(self):
        result = run(Database(SCHEMA), NAMES, (target(),), line(n="1", k="1", r="3") + line(n="1", k="1", c="9"))
        self.assertEqual([outcome[4:] for outcome in result.outcomes],
                         [(("reference", 0, (3,)), 1, None), (("check", "small"), 1, None)])


class RemovalTest(unittest.TestCase):
    """9.4."""

    def test_own_references(self):
        """A row that refers to itself does not stand in the way, another one does, and both moments count."""
        for moment in ("now", "end"):
            table = Table("t", (column("k"), free("a"), free("b")), ("k",),
                          references=((("a",), "t", moment), (("b",), "t", moment)))
            database = Database(Schema((table,)))
            put(database, "t", ("1", "1", "1"), ("2", "", "1"), ("3", "3", "2"))
            result = run(database, ("k",), (target("remove", "t", ("k",)),), "1\n2\n3\n2\n1\n3\n")
            self.assertEqual([(outcome[1], outcome[4]) for outcome in result.outcomes], [
                ("rejected", ("referred", "t", 1)), ("rejected", ("referred", "t", 1)), ("removed", None),
                ("removed", None), ("removed", None), ("rejected", ("absent",))])
            self.assertEqual(database.rows("t"), [])

    def test_the_first_table_and_its_first_reference(self):
        base = Table("base", (column("k"), column("l")), ("k", "l"))
        other = Table("other", (column("k"), free("a"), free("b"), free("c")), ("k",),
                      references=((("a",), "other", "now"), (("a", "b"), "base", "end"), (("c", "b"), "base", "now")))
        first = Table("first", (column("k"), free("a")), ("k",), references=((("k", "a"), "base", "now"),))
        for order, told in (((first, base, other), [("first", 0), ("other", 1), ("other", 2), None]),
                            ((other, first, base), [("other", 1), ("other", 1), ("other", 2), None])):
            database = Database(Schema(order))
            put(database, "base", *[(key, "1") for key in "0123"])
            put(database, "first", ("0", "1"))
            put(database, "other", ("0", "0", "1", "1"), ("1", "1", "1", "2"))
            result = run(database, ("l", "k"), (target("remove", "base", ("l", "k")),), "1,0\n1,1\n1,2\n1,3\n")
            self.assertEqual([None if outcome[4] is None else outcome[4][1:] for outcome in result.outcomes], told)

    def test_references_of_other_tables_do_not_count(self):
        one_table = Table("a", (column("k"), free("r")), ("k",), references=((("r",), "b", "now"),))
        database = Database(Schema((one_table, Table("b", (column("k"),), ("k",)))))
        put(database, "b", ("1",))
        put(database, "a", ("1", "1"))
        result = run(database, ("k",), (target("remove", "a", ("k",)),), "1\n")
        self.assertEqual((result.outcomes[0][1], all_rows(database)), ("removed", {"a": [], "b": [(1,)]}))

    def test_a_row_comes_again(self):
        database = Database(Schema((Table("t", (column("k"), free("u")), ("k",), uniques=(("u",),)),)))
        targets = (target("remove", "t", ("k",), condition=("missing", ("field", "u"))),
                   target("insert", "t", ("k", "u")))
        result = run(database, ("k", "u"), targets, "1,5\n1,\n1,5\n2,5\n1,\n2,5\n")
        self.assertEqual([outcome[1] for outcome in result.outcomes],
                         ["loaded", "removed", "loaded", "rejected", "removed", "loaded"])


class OldStateTest(unittest.TestCase):
    def test_nothing_of_a_rejected_record_stays(self):
        """Neither in a unit with others."""
        database = Database(SCHEMA)
        text = line(n="1", k="1", u="1") + line(n="1", k="2", u="1") + line(n="1", k="3", g="1", w="-1") + \
            line(n="1", k="4", r="4")
        result = run(database, NAMES, (target(),), text)
        self.assertEqual([outcome[4] for outcome in result.outcomes],
                         [None, ("unique", 0), ("tally", 0), ("reference", 0, (4,))])
        self.assertEqual(whole(database), ({"base": [], "main": [(1, 1, None, None, 1, None, None, 1)], "sums": [],
                                            "child": []}, [1, 0, 0]))


if __name__ == "__main__":
    unittest.main()
