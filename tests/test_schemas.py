"""Schemas: 6.1 to 6.7, and the interface's section on them; truths of checks stand in test_checks.py."""

import itertools
import random
import unittest

from bulkload.schemas import Column, Schema, Table
from tests.helpers import COLUMN, OBJECTS, ODD, ODDITIES, SCHEMA, Equal, caught, shown, spoiled
from tests.schema_reading import built, fault_in

INT = ("int", 0, 99)
KEY = Column("k", INT)
# A schema in which each thing stands: tables of sales and shops, and one with totals of sales.
SPEC = (
    ("Table", "sale", (
        ("Column", "id", ("int", 1, 99), False, None), ("Column", "shop", ("text", 9), True, "a"),
        ("Column", "cents", ("int", -9, 99), True, 7), ("Column", "when", ("date",), False, 1),
        ("Column", "free", ("truth",), False, True), ("Column", "mark", ("choice", ("x", "y")), True, "y"),
        ("Column", "price", ("decimal", 0, 99, 2), True, None), ("Column", "seq", INT, False, ("next", "q")),
        ("Column", "old", ("int", 5, 7), True, None)),
     ("id",), (("shop", "when"), ("mark",)), ((("shop",), "shop", "end"), (("old",), "sale", "now")),
     (("c", ("either", ("less", ("column", "id"), ("column", "cents")), ("missing", ("column", "price")))),
      ("d", ("not", ("both", ("same", ("value", True), ("column", "free")),
                     ("less", ("column", "when"), ("value", 5)))))),
     (("sums", ("shop", "mark"), "cents", "all"), ("sums", ("shop", "mark"), None, "many"))),
    ("Table", "shop", (
        ("Column", "name", ("text", 9), False, None), ("Column", "name2", ("choice", ("x", "y")), True, "x"),
        ("Column", "n", INT, True, 0)),
     ("name",), (), (), (), (("sums", ("name", "name2"), "n", "all"),)),
    ("Table", "sums", (
        ("Column", "all", ("int", -999, 999), False, None), ("Column", "shop", ("text", 9), False, None),
        ("Column", "mark", ("choice", ("x", "y")), False, None), ("Column", "many", ("int", 0, 9), False, None)),
     ("shop", "mark"), (), (), (), ()),
)
NEWS = ODD + OBJECTS + (
    "", "A", "a" * 20001, "id", "shop", "cents", "seq", "sale", "sums", "name", "all", "many", "zz", "now", "end",
    "next", "column", "value", "less", "same", "missing", "not", "both", "either", "x", 2, 99, ("id",), ("shop",),
    ("seq",), ("shop", "mark"), ("next", "q"), ("int", 5, 7), ("int", 1, 99), ("text", 9), ("column", "id"),
    ("column", "seq"), ("value", 5), ("value", None), ("missing", ("column", "id")), ("Column", "id", INT, False, None),
)


def fault(*tables):
    """The place and the rule of the error that a schema of the tables raises; None if there is no error."""
    try:
        told = caught(Schema, tables)
    except AssertionError:
        return None
    assert told[0] == "BadSchema"
    return told[1:]


def table(title="t", columns=(), key=("k",), **more):
    """A table with the key column k and more columns."""
    return Table(title, (KEY,) + tuple(columns), key, **more)


def column(title, kind=INT, nullable=True, default=None):
    return Column(title, kind, nullable=nullable, default=default)


SUMS = Table("sums", (KEY, Column("n", ("int", 0, 9))), ("k",))


def counted(title="main", tallies=(), **more):
    """A table that counts in SUMS, and has more tallies."""
    return table(title, tallies=(("sums", ("k",), None, "n"),) + tallies, **more)


class ClassesTest(unittest.TestCase):
    def test_columns(self):
        one = Column("k", INT)
        self.assertEqual(vars(one), {"title": "k", "kind": INT, "nullable": False, "default": None})
        one = Column(kind=INT, title="k", default=5, nullable=True)
        self.assertEqual(vars(one), {"title": "k", "kind": INT, "nullable": True, "default": 5})
        with self.assertRaises(TypeError):
            Column("k", INT, True)

    def test_tables(self):
        fields = {"title": "t", "columns": (COLUMN,), "key": ("k",), "uniques": (), "references": (), "checks": (),
                  "tallies": ()}
        self.assertEqual(vars(Table("t", (COLUMN,), ("k",))), fields)
        fields = {**fields, "uniques": (1,), "references": (2,), "checks": (3,), "tallies": (4,)}
        self.assertEqual(vars(Table(**fields)), fields)
        with self.assertRaises(TypeError):
            Table("t", (COLUMN,), ("k",), ())

    def test_nothing_is_checked(self):
        for value in ODDITIES + OBJECTS:
            self.assertIs(Column(value, value, nullable=value, default=value).default, value)
            other = Table(value, value, value, uniques=value, references=value, checks=value, tallies=value)
            self.assertTrue(all(field is value for field in vars(other).values()))


class SchemaTest(unittest.TestCase):
    def setUp(self):
        self.tables = built(SPEC)
        self.schema = Schema(self.tables)

    def test_titles(self):
        self.assertEqual(self.schema.titles, ("sale", "shop", "sums"))
        self.assertEqual(Schema(tables=self.tables[2:]).titles, ("sums",))
        self.assertEqual(Schema((table("b"), table("a"), table("c"))).titles, ("b", "a", "c"))
        with self.assertRaises(AttributeError):
            self.schema.titles = ()

    def test_table_of(self):
        for place, one in zip(("sale", "shop", "sums"), self.tables):
            self.assertIs(self.schema.table_of(place), one)
            self.assertIs(self.schema.table_of(place=place), one)
            self.assertIs(place in self.schema, True)

    def test_no_table(self):
        for value in ODDITIES + OBJECTS + ("Sale", "sal", ("sale",), ["sale"], b"sale", 0, Equal()):
            with self.assertRaises(ValueError) as told:
                self.schema.table_of(value)
            self.assertEqual(type(told.exception).__name__, "NoTable")
            self.assertIs(told.exception.place, value)
            self.assertIs(value in self.schema, False)

    def test_tally_titles(self):
        self.assertEqual(self.schema.tally_titles(), ("sums",))
        self.assertEqual(SCHEMA.tally_titles(), ())
        other = Table("other", SUMS.columns, ("k",))
        main = table("main", tallies=(("sums", ("k",), None, "n"), ("other", ("k",), None, "n")) * 2)
        self.assertEqual(Schema((other, main, table(), SUMS)).tally_titles(), ("other", "sums"))

    def test_what_is_handed_in_stays(self):
        before = [dict(vars(one)) for one in self.tables]
        Schema(self.tables)
        self.assertEqual([vars(one) for one in self.tables], before)


class WithinTest(unittest.TestCase):
    """The rules of one table."""

    def test_no_tables(self):
        for value in ODDITIES + OBJECTS + ([table()], (), {"t": table()}, table()):
            if not isinstance(value, tuple) or not 1 <= len(value) <= 12:
                self.assertEqual(caught(Schema, value), ("BadSchema", None, "table"))
        many = tuple(table("t" + str(number)) for number in range(13))
        self.assertIsNone(fault(*many[:12]))
        self.assertEqual(fault(*many), (None, "table"))
        self.assertEqual(fault(*(None,) * 13), (None, "table"))

    def test_table_and_title(self):
        for value in ODDITIES + OBJECTS:
            if not isinstance(value, Table):
                self.assertEqual(fault(value), (0, "table"))
                self.assertEqual(fault(table("a"), value, None), (1, "table"))
            if not isinstance(value, str) or value not in ("a", "int", "yes"):
                self.assertEqual(fault(table(value)), (0, "title"), shown(value))
        for title in ("", "A", "a" * 21, "a-", "_a", "1", "a\n"):
            self.assertEqual(fault(table("t"), table(title)), (1, "title"))
        self.assertEqual(fault(table("a"), table("b"), table("a"), table("b")), (2, "title"))
        self.assertIsNone(fault(table("a" * 20), table("a_1")))

    def test_columns(self):
        for value in ODDITIES + OBJECTS + ((), [KEY], (KEY, KEY), (KEY, Column("k", ("truth",))), (KEY, None),
                                           (KEY, ("b", INT, False, None)), {"k": KEY}, KEY):
            self.assertEqual(fault(Table("t", value, ("k",))), (0, "columns"))
        for title in ODD + OBJECTS + ("", "A", "a" * 21, "k"):
            self.assertEqual(fault(table(columns=(column(title),))), (0, "columns"))
        many = tuple(column("c" + str(number)) for number in range(16))
        self.assertIsNone(fault(table(columns=many[:15])))
        self.assertEqual(fault(table(columns=many)), (0, "columns"))

    def test_kind_and_nullable(self):
        for value in ODD + OBJECTS + ((), ("int",), ("int", 1, 0), ["date"], ("text", 0), ("float", 1, 2), "date"):
            self.assertEqual(fault(table(columns=(column("a", value),))), (0, "kind"))
        for value in ODDITIES + OBJECTS + (0, 1, "yes", (True,)):
            if not isinstance(value, bool):
                self.assertEqual(fault(table(columns=(column("a", nullable=value),))), (0, "nullable"))
        self.assertIsNone(fault(table(columns=(column("a", nullable=True), column("b", nullable=False)))))

    def test_defaults(self):
        right = {INT: (0, 99, ("next", "a_1")), ("decimal", -5, 5, 1): (-5, 0, 5), ("text", 3): ("", "abc", "\n"),
                 ("choice", ("a", "b")): ("a", "b"), ("truth",): (True, False), ("date",): (1, 3652059)}
        wrong = {INT: (-1, 100, "5", True, False, ("next",), ("next", "A"), ("next", ""), ("next", "a", "b"),
                       ["next", "a"], ("Next", "a"), ("next", None), ("next", 1), (1,), ("now", "a"), (["next"], "a")),
                 ("decimal", -5, 5, 1): (-6, 6, True, "0", ("next", "a")),
                 ("text", 3): ("abcd", 1, ("next", "a"), "\t"),
                 ("choice", ("a", "b")): ("c", "", ("next", "a"), ["a"]), ("truth",): (0, 1, "yes", ("next", "a")),
                 ("date",): (0, 3652060, True, "0001-01-01", ("next", "a"))}
        for kind in right:
            for nullable in (True, False):
                for default in right[kind] + (None,):
                    self.assertIsNone(fault(table(columns=(column("a", kind, nullable, default),))))
                for default in wrong[kind]:
                    self.assertEqual(fault(table(columns=(column("a", kind, nullable, default),))), (0, "default"))
        for default in ODD + OBJECTS:
            if default is not None:
                self.assertEqual(fault(table(columns=(column("a", ("text", 1), True, default),))), (0, "default"))

    def test_keys(self):
        columns = (column("c", nullable=False), column("n"), column("d", nullable=False, default=5),
                   column("s", nullable=False, default=("next", "q")), column("b", ("truth",), False))
        for key in (("k",), ("c",), ("c", "k"), ("k", "c", "b")):
            self.assertIsNone(fault(table(columns=columns, key=key)))
        for key in ODDITIES + OBJECTS + ((), ["k"], "k", ("k", "k"), ("zz",), ("k", "zz"), ("n",), ("k", "n"), ("d",),
                                         ("s",), ("k", "s"), (KEY,), (("k",),), {"k": 1}, ("c", "k", "c"), ("K",)):
            self.assertEqual(fault(table(columns=columns, key=key)), (0, "key"), shown(key))

    def test_uniques(self):
        columns = (column("a"), column("b", nullable=False, default=5), column("s", default=("next", "q")))
        for uniques in ((), (("k",),), (("a",),), (("b", "a", "k"), ("a", "b", "k"), ("a",), ("a",))):
            self.assertIsNone(fault(table(columns=columns, uniques=uniques)))
        for unique in ODDITIES + OBJECTS + ((), ["a"], "a", ("a", "a"), ("zz",), ("a", "zz"), ("s",), ("a", "s")):
            if unique != ("a",) or isinstance(unique, Equal):
                self.assertEqual(fault(table(columns=columns, uniques=(unique,))), (0, "uniques"), shown(unique))
                self.assertEqual(fault(table(columns=columns, uniques=(("b",), unique))), (0, "uniques"))
        for uniques in ODD + OBJECTS + ([("a",)], "a", ("a",), None):
            if uniques != () or isinstance(uniques, Equal):
                self.assertEqual(fault(table(columns=columns, uniques=uniques)), (0, "uniques"), shown(uniques))

    def test_references(self):
        columns = (column("a"), column("s", default=("next", "q")))
        for reference in ((("k",), "t", "now"), (("a",), "t", "end")):
            self.assertIsNone(fault(table(columns=columns, references=(reference,))))
        titles = ((), ["a"], "a", ("a", "a"), ("zz",), ("s",), ("a", "s"), None, (None,), Equal())
        places = ("", "T", "a" * 21, None, 0, ["t"], ("t",), b"t", Equal(), table())
        moments = ("", "Now", "later", None, 0, True, ["end"], ("end",), b"now", Equal())
        wrong = [(value, "t", "now") for value in titles] + [(("a",), value, "end") for value in places]
        wrong += [(("a",), "t", value) for value in moments]
        wrong += [(("a",), "t"), (("a",), "t", "now", "end"), [("a",), "t", "now"], *ODD, *OBJECTS]
        for reference in wrong:
            self.assertEqual(fault(table(columns=columns, references=(reference,))), (0, "references"))
            self.assertEqual(fault(table(columns=columns, references=((("a",), "t", "now"), reference))),
                             (0, "references"))
        for references in (None, [(("a",), "t", "now")], (("a",), "t", "now"), {}, 5, True, "a"):
            self.assertEqual(fault(table(columns=columns, references=references)), (0, "references"))

    def test_tallies(self):
        columns = (column("a", ("int", -5, 5)), column("d", ("decimal", 0, 9, 1)), column("s", default=("next", "q")),
                   column("b", ("truth",)), column("day", ("date",)))
        for amount in (None, "a", "k"):
            self.assertIsNone(fault(table(columns=columns, tallies=(("sums", ("k",), amount, "n"),)), SUMS))
        wrong = [("sums", ("k",), amount, "n") for amount in (
            "d", "s", "b", "day", "zz", "", "A", 0, False, ("a",), ["a"], b"a", Equal(), KEY)]
        wrong += [("sums", titles, None, "n") for titles in (
            (), ["k"], "k", ("k", "k"), ("zz",), ("s",), ("k", "s"), None, (None,), Equal())]
        wrong += [(place, ("k",), None, "n") for place in ("", "T", None, 0, ["sums"], ("sums",), Equal(), SUMS)]
        wrong += [("sums", ("k",), None, total) for total in ("", "N", None, 0, ["n"], ("n",), Equal(), KEY)]
        wrong += [("sums", ("k",), None), ("sums", ("k",), None, "n", "n"), ["sums", ("k",), None, "n"], *ODD, *OBJECTS]
        for tally in wrong:
            self.assertEqual(fault(table(columns=columns, tallies=(tally,)), SUMS), (0, "tallies"), shown(tally))
        for tallies in (None, [("sums", ("k",), None, "n")], ("sums", ("k",), None, "n"), {}, 5, True, "a"):
            self.assertEqual(fault(table(columns=columns, tallies=tallies), SUMS), (0, "tallies"))

    def test_which_rule_comes_first(self):
        """All sets of rules that a table can break at once."""
        columns = (KEY, column("a"), column("s", default=("next", "q")))
        extra = {"kind": column("kx", ("int", 2, 1)), "nullable": column("nx", nullable=1),
                 "default": column("dx", default=100), "columns": column("a")}
        fields = {"key": ("a",), "uniques": (("s",),), "references": ((("s",), "t", "now"),),
                  "checks": (("c", ("missing", ("column", "s"))),), "tallies": (("t", ("k",), "s", "n"),)}
        rules = ("table", "title", "columns", "kind", "nullable", "default", *fields)
        for size in range(1, 5):
            for broken in itertools.combinations(rules, size):
                more = {rule: fields[rule] for rule in broken if rule in fields}
                own = columns + tuple(extra[rule] for rule in broken if rule in extra)
                key = more.pop("key", ("k",))
                one = None if "table" in broken else Table("T" if "title" in broken else "t", own, key, **more)
                self.assertEqual(fault(one), (0, broken[0]))
                self.assertEqual(fault(table("one"), one, None), (1, broken[0]))


class AmongTest(unittest.TestCase):
    """The rules of tables beside one another."""

    def test_references(self):
        two = Table("two", (Column("x", ("int", 5, 6)), Column("y", ("decimal", 0, 1, 2))), ("y", "x"))
        columns = (column("i", ("int", -9, 9)), column("d", ("decimal", -9, 9, 2)), column("e", ("decimal", 0, 1, 1)),
                   column("t", ("text", 5)), column("day", ("date",)))
        for titles, place in ((("d", "i"), "two"), (("d", "k"), "two"), (("i",), "t"), (("k",), "t")):
            for moment in ("now", "end"):
                self.assertIsNone(fault(table(columns=columns, references=((titles, place, moment),)), two))
        for titles, place in ((("i", "d"), "two"), (("e", "i"), "two"), (("d",), "two"), (("d", "i", "k"), "two"),
                              (("d", "day"), "two"), (("t",), "t"), (("day",), "t"), (("k", "i"), "t"), (("i",), "zz")):
            one = table(columns=columns, references=((titles, place, "end"),))
            self.assertEqual(fault(one, two), (0, "reference"))
            self.assertEqual(fault(two, one), (1, "reference"))

    def test_alike_columns(self):
        kinds = (("int", 0, 1), ("int", 5, 9), ("decimal", 0, 1, 1), ("decimal", 0, 9, 1), ("decimal", 0, 1, 2),
                 ("text", 1), ("text", 1000), ("choice", ("a",)), ("choice", ("b", "c")), ("truth",), ("date",))
        for one, other in itertools.product(kinds, repeat=2):
            alike = one[0] == other[0] and (one[0] != "decimal" or one[3] == other[3])
            there = Table("there", (Column("x", other),), ("x",))
            here = table(columns=(column("a", one),), references=((("a",), "there", "now"),))
            self.assertEqual(fault(here, there), None if alike else (0, "reference"))
            total = Table("sums", (Column("x", other), Column("n", ("int", 0, 1))), ("x",))
            here = table(columns=(column("a", one),), tallies=(("sums", ("a",), None, "n"),))
            self.assertEqual(fault(here, total), None if one == other else (0, "tally"))

    def test_references_to_tally_tables(self):
        for moment in ("now", "end"):
            leading = table("lead", references=((("k",), "sums", moment),))
            self.assertIsNone(fault(leading, SUMS))
            self.assertEqual(fault(SUMS, counted(), leading), (2, "reference"))
            self.assertEqual(fault(leading, counted(), SUMS), (0, "reference"))
            own = counted(references=((("k",), "sums", moment),))
            self.assertEqual(fault(own, SUMS), (0, "reference"))

    def test_tallies(self):
        columns = (column("a", ("int", -5, 5)), column("b", ("truth",)))
        sums = Table("sums", (Column("n", ("int", 0, 1)), Column("b", ("truth",)), Column("k", INT),
                              Column("m", ("int", -1, 0))), ("k", "b"))
        full = ("sums", ("k", "b"), "a", "n"), ("sums", ("k", "b"), None, "m")
        self.assertIsNone(fault(table(columns=columns, tallies=full), sums))
        for tally in (("zz", ("k", "b"), None, "n"), ("sums", ("b", "k"), None, "n"), ("sums", ("k",), None, "n"),
                      ("sums", ("a", "b"), None, "n"), ("sums", ("k", "b", "a"), None, "n"),
                      ("sums", ("k", "b"), None, "k"), ("sums", ("k", "b"), None, "b"),
                      ("sums", ("k", "b"), "a", "zz")):
            self.assertEqual(fault(table(columns=columns, tallies=full + (tally,)), sums), (0, "tally"))
            self.assertEqual(fault(sums, table(columns=columns, tallies=(tally,) + full)), (1, "tally"))

    def test_tally_tables(self):
        self.assertIsNone(fault(counted(), SUMS))
        self.assertIsNone(fault(SUMS, counted(), counted("again", (("sums", ("k",), "k", "n"),))))
        wrong_columns = (Column("n", ("int", 1, 9)), Column("n", ("int", -9, -1)), Column("n", ("decimal", 0, 9, 1)),
                         Column("n", ("text", 5)), Column("n", ("date",)), Column("n", ("truth",)),
                         Column("n", INT, nullable=True), Column("n", INT, default=0),
                         Column("n", INT, default=("next", "q")))
        for wrong in wrong_columns:
            sums = Table("sums", (KEY, wrong), ("k",))
            self.assertEqual(fault(counted(), sums), (1, "total"))
            self.assertEqual(fault(sums, table(), counted()), (0, "total"))
            self.assertIsNone(fault(sums))
        for low, high in ((0, 0), (-5, 0), (0, 5), (-1, 1)):
            self.assertIsNone(fault(counted(), Table("sums", (KEY, Column("n", ("int", low, high))), ("k",))))
        without = Table("sums", SUMS.columns + (Column("m", ("int", 0, 9)),), ("k",))
        self.assertEqual(fault(counted(), without), (1, "total"))
        second = table("second", tallies=(("sums", ("k",), "k", "m"),))
        self.assertIsNone(fault(second, counted(), without))
        other = Table("other", without.columns, ("k",))
        elsewhere = table("second", tallies=(("other", ("k",), None, "m"), ("other", ("k",), None, "n")))
        self.assertEqual(fault(elsewhere, counted(), without, other), (2, "total"))

    def test_what_tally_tables_have_not(self):
        more = ({"uniques": (("n",),)}, {"references": ((("k",), "main", "end"),)},
                {"checks": (("c", ("missing", ("column", "n"))),)}, {"tallies": (("third", ("k",), None, "n"),)})
        third = Table("third", SUMS.columns, ("k",))
        for fields in more:
            sums = Table("sums", SUMS.columns, ("k",), **fields)
            self.assertEqual(fault(counted(), sums, third), (1, "total"))
            self.assertEqual(fault(sums, third, counted()), (0, "total"))
            self.assertIsNone(fault(sums, third, table("main")))
        own = Table("sums", SUMS.columns, ("k",), tallies=(("sums", ("k",), None, "n"),))
        self.assertEqual(fault(own), (0, "total"))

    def test_which_comes_first(self):
        lost = ((("k",), "zz", "now"),)
        away = (("zz", ("k",), None, "n"),)
        bad_sums = Table("sums", (KEY, Column("n", ("text", 1))), ("k",))
        last = table("last", uniques=None)
        # Within one table.
        self.assertEqual(fault(table(references=lost, tallies=away)), (0, "reference"))
        for fields, rule in (({"references": lost, "tallies": away}, "reference"), ({"tallies": away}, "tally"),
                             ({}, "total")):
            sums = Table("sums", bad_sums.columns, ("k",), **fields)
            self.assertEqual(fault(sums, counted()), (0, rule))
            self.assertEqual(fault(counted(), sums), (1, rule))
            # All tables come first as far as "tallies".
            self.assertEqual(fault(sums, counted(), last), (2, "uniques"))
            for other in (table("last", tallies=None), table("last", checks=None), table("sums"), None):
                self.assertEqual(fault(sums, counted(), other)[0], 2)
        # Between two tables the place counts, not the rule.
        self.assertEqual(fault(bad_sums, counted(references=lost)), (0, "total"))
        self.assertEqual(fault(counted(tallies=away), bad_sums), (0, "tally"))
        self.assertEqual(fault(table(tallies=away), table("u", references=lost)), (0, "tally"))
        self.assertEqual(fault(table(checks=None), Table("u", None, ("k",))), (0, "checks"))
        self.assertEqual(fault(table(tallies=None), None), (0, "tallies"))


class ReadingTest(unittest.TestCase):
    """Each place of a schema spoiled by each of many values, held against a reading of section 6."""

    def agree(self, spec):
        tables = built(spec)
        expected = fault_in(tables)
        if expected is None:
            self.assertEqual(Schema(tables).titles, tuple(one.title for one in tables))
        else:
            self.assertEqual(caught(Schema, tables), ("BadSchema",) + expected, shown(spec))
        return expected

    def test_right(self):
        self.assertIsNone(self.agree(SPEC))
        for spec in itertools.permutations(SPEC):
            self.assertIsNone(self.agree(spec))

    def test_spoiled_at_each_place(self):
        found = {}
        for spec in spoiled(SPEC, NEWS):
            told = self.agree(spec)
            found[told] = found.get(told, 0) + 1
        rules = {told[1] for told in found if told is not None}
        self.assertEqual(len(rules), 14, rules)

    def test_spoiled_at_two_places(self):
        source = random.Random(3)
        some = list(spoiled(SPEC, NEWS[::5]))
        for _ in range(1500):
            one, other = source.choice(some), source.choice(some)
            if isinstance(one, tuple) and isinstance(other, tuple) and len(one) == len(other) == 3:
                self.agree((one[0], other[1], source.choice((one, other))[2]))


if __name__ == "__main__":
    unittest.main()
