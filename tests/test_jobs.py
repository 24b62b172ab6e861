"""Jobs: 8.1 to 8.3 as far as check_job asks them, and the interface's section on them."""

import itertools
import unittest

from bulkload.formats import Delimited, Fixed
from bulkload.jobs import RULES, Job, Target, check_job
from bulkload.schemas import Column, Schema, Table
from tests.helpers import OBJECTS, ODD, ODDITIES, Equal, caught, nested, shown, spoiled

INT = ("int", 0, 99)
SCHEMA = Schema((
    Table("city", (Column("id", INT), Column("name", ("text", 9)), Column("land", ("text", 2))), ("land", "id"),
          tallies=(("sums", ("land",), None, "many"),)),
    Table("sums", (Column("land", ("text", 2)), Column("many", INT)), ("land",)),
    Table("road", (Column("nr", INT), Column("seq", INT, default=("next", "q"))), ("nr",)),
))
GIVEN = Delimited(names=("a", "b", "c"))
HEADER = Delimited()
FIXED = Fixed((("a", 2, "left", " "), ("b", 2, "right", " ")))
A, B = ("field", "a"), ("field", "b")
KEY = (("id", A), ("land", B))
CITY = Target("city", KEY)
SETTINGS = ("format", "targets", "size", "most_rejects", "strict", "skip_first", "at_most")
LONG_NUMBER = 10 ** 5000


def fault(form=GIVEN, targets=(CITY,), **more):
    """What check_job says of a job: (place, rule), or None."""
    return fault_of(Job(form, targets, **more))


def fault_of(job):
    try:
        told = caught(check_job, SCHEMA, job)
    except AssertionError as error:
        assert str(error) == "no error, but None", error
        return None
    assert told[0] == "BadJob"
    return told[1:]


def of_target(*values, form=GIVEN, **named):
    """What check_job says of a job whose second target is this one."""
    told = fault(form, (CITY, Target(*values, **named)))
    assert told is None or told[0] == 1, told
    return told and told[1]


class ClassesTest(unittest.TestCase):
    def test_rules(self):
        self.assertEqual(RULES, ("insert", "skip", "replace", "merge", "change", "remove"))

    def test_targets(self):
        fields = {"place": "city", "columns": KEY, "condition": ("always",), "rule": "insert"}
        self.assertEqual(vars(Target("city", KEY)), fields)
        fields = {**fields, "condition": 1, "rule": 2}
        self.assertEqual(vars(Target(**fields)), fields)
        with self.assertRaises(TypeError):
            Target("city", KEY, ("always",))

    def test_jobs(self):
        fields = {"form": GIVEN, "targets": (CITY,), "size": 10, "most_rejects": None, "strict": False,
                  "skip_first": 0, "at_most": None}
        self.assertEqual(vars(Job(GIVEN, (CITY,))), fields)
        fields = {**fields, "size": 1, "most_rejects": 2, "strict": True, "skip_first": 3, "at_most": 4}
        self.assertEqual(vars(Job(**fields)), fields)
        with self.assertRaises(TypeError):
            Job(GIVEN, (CITY,), 10)

    def test_nothing_is_checked(self):
        for value in ODDITIES + OBJECTS:
            target = Target(value, value, condition=value, rule=value)
            self.assertTrue(all(field is value for field in vars(target).values()))
            job = Job(value, value, size=value, most_rejects=value, strict=value, skip_first=value, at_most=value)
            self.assertTrue(all(field is value for field in vars(job).values()))


class SettingsTest(unittest.TestCase):
    def test_right(self):
        for form in (GIVEN, HEADER, FIXED):
            self.assertIsNone(check_job(SCHEMA, Job(form, (CITY,))))
        self.assertIsNone(check_job(job=Job(GIVEN, (CITY,)), schema=SCHEMA))
        for fields in ({"size": 1}, {"size": 100}, {"most_rejects": 0}, {"most_rejects": LONG_NUMBER},
                       {"strict": True}, {"skip_first": 1}, {"skip_first": LONG_NUMBER}, {"at_most": 0},
                       {"at_most": LONG_NUMBER}):
            self.assertIsNone(fault(**fields))

    def test_format_and_targets(self):
        for value in ODD + OBJECTS + ("", "a", Delimited, (GIVEN,)):
            if not isinstance(value, (Delimited, Fixed)):
                self.assertEqual(fault(form=value), (None, "format"))
        for value in ODD + OBJECTS + ([CITY], CITY, {0: CITY}, (CITY, None), (("city", KEY),), (Target,), (CITY,) * 9):
            self.assertEqual(fault(targets=value), (None, "targets"), shown(value))
        for many in range(1, 9):
            self.assertIsNone(fault(targets=(CITY,) * many))

    def test_numbers(self):
        odd = ODD + OBJECTS + ("1", "", b"1", (1,), [1])
        for value in odd:
            whole = type(value) is int
            if not whole or not 1 <= value <= 100:
                self.assertEqual(fault(size=value), (None, "size"), shown(value))
            for name in ("most_rejects", "skip_first", "at_most"):
                if not (whole and value >= 0 or value is None and name != "skip_first"):
                    self.assertEqual(fault(**{name: value}), (None, name), shown(value))
        for value in (0, 101, -1, True, None):
            self.assertEqual(fault(size=value), (None, "size"))
        for name in ("most_rejects", "skip_first", "at_most"):
            for value in (-1, -LONG_NUMBER, True, False):
                self.assertEqual(fault(**{name: value}), (None, name))
        self.assertEqual(fault(skip_first=None), (None, "skip_first"))

    def test_strict(self):
        for value in ODD + OBJECTS + ("yes", "", 0, 1, (True,)):
            if not isinstance(value, bool):
                self.assertEqual(fault(strict=value), (None, "strict"))

    def test_which_comes_first(self):
        wrong = {"form": None, "targets": (CITY, None), "size": 0, "most_rejects": -1, "strict": 1, "skip_first": None,
                 "at_most": True}
        for many in range(1, 8):
            for some in itertools.combinations(wrong, many):
                first = SETTINGS[list(wrong).index(some[0])]
                self.assertEqual(fault(**{name: wrong[name] for name in some}), (None, first))
                if "targets" not in some:
                    more = {name: wrong[name] for name in some}
                    self.assertEqual(fault(targets=(Target("zz", ()),), **more), (None, first))


class TargetsTest(unittest.TestCase):
    def test_tables(self):
        for place in ODDITIES + OBJECTS + ("City", "", "sums", ("city",), ["city"], b"city", Equal()):
            self.assertEqual(of_target(place, KEY), "table")
        self.assertIsNone(of_target("road", (("nr", A),)))

    def test_rules(self):
        for rule in ODDITIES + OBJECTS + ("Insert", "", "load", ("insert",), ["skip"], b"merge", RULES, 0):
            self.assertEqual(of_target("city", KEY, rule=rule), "rule")
        for rule in RULES:
            self.assertIsNone(of_target("city", KEY, rule=rule))

    def test_columns(self):
        name = ("name", ("const", "x"))
        for rule in RULES:
            removes = rule == "remove"
            for columns in (KEY, KEY[::-1]):
                self.assertIsNone(of_target("city", columns, rule=rule))
            for columns in (KEY + (name,), (name,) + KEY[::-1], (KEY[0], name, KEY[1])):
                self.assertEqual(of_target("city", columns, rule=rule), "columns" if removes else None)
            for columns in ((), KEY[:1], KEY[1:], (name,), (name, KEY[0]), KEY + KEY[:1], KEY + (name, name),
                            KEY + (("zz", A),), KEY + (("nr", A),), KEY + (("seq", A),), KEY[:1] * 2,
                            KEY + (("name",),), KEY + (("name", A, A),), KEY + (["name", A],), KEY + ("ab",),
                            KEY + ((None, A),), KEY + (((), A),), KEY + ((["name"], A),), KEY + ((Equal(), A),),
                            KEY + (("Name", A),), KEY + ((b"name", A),), list(KEY), {"id": A, "land": B}, KEY[0],
                            KEY + (None,)):
                self.assertEqual(of_target("city", columns, rule=rule), "columns", columns)
        for odd in ODDITIES + OBJECTS:
            self.assertEqual(of_target("city", odd), "columns")
            self.assertEqual(of_target("city", KEY + (odd,)), "columns")
            self.assertEqual(of_target("city", KEY + ((odd, A),)), "columns")
        self.assertIsNone(of_target("road", (("nr", A), ("seq", B))))
        self.assertEqual(of_target("road", (("nr", A), ("seq", B)), rule="remove"), "columns")
        self.assertEqual(of_target("road", (("seq", B),)), "columns")

    def test_expressions(self):
        for odd in ODDITIES + OBJECTS + (("always",), ("missing", A), ("field",), ["field", "a"], A[:1],
                                         nested(lambda inner: ("trim",) + inner, 59)):
            for form in (GIVEN, HEADER, FIXED):
                self.assertEqual(of_target("city", (("id", odd), KEY[1]), form=form), "expression")
                self.assertEqual(of_target("city", (KEY[0], ("land", ("trim", odd))), form=form), "expression")
                self.assertEqual(of_target("city", KEY + (("name", ("first", A, odd)),), form=form), "expression")

    def test_conditions(self):
        for odd in ODDITIES + OBJECTS + (A, ("none",), ["always"], ("always", 1), ("is", A),
                                         nested(lambda inner: ("not",) + inner, 59)):
            for form in (GIVEN, HEADER, FIXED):
                self.assertEqual(of_target("city", KEY, condition=odd, form=form), "condition")
                self.assertEqual(of_target("city", KEY, condition=("not", odd), form=form), "condition")
        for condition in (("always",), ("not", ("is", A, "x")), ("fits", INT, B)):
            self.assertIsNone(of_target("city", KEY, condition=condition))

    def test_fields(self):
        for form, known in ((GIVEN, "abc"), (FIXED, "ab"), (HEADER, ("a", "b", "c", "d", "z9_", "a" * 20))):
            for title in ("a", "b", "c", "d", "z9_", "a" * 20):
                columns = KEY + (("name", ("trim", ("field", title))),)
                condition = ("missing", ("field", title))
                self.assertEqual(of_target("city", columns, form=form), None if title in known else "expression")
                self.assertEqual(of_target("city", KEY, condition=condition, form=form),
                                 None if title in known else "condition")
            for title in ("", "A", "a" * 21, None, ["a"], ("a",), 0, Equal()):
                self.assertEqual(of_target("city", KEY + (("name", ("field", title)),), form=form), "expression")
                condition = ("missing", ("field", title))
                self.assertEqual(of_target("city", KEY, condition=condition, form=form), "condition")

    def test_which_comes_first(self):
        wrong = {"table": ("place", "sums"), "rule": ("rule", "x"), "columns": ("columns", KEY[:1]),
                 "expression": ("columns", KEY + (("name", A + A),)), "condition": ("condition", A)}
        for many in range(1, 6):
            for some in itertools.combinations(wrong, many):
                fields = {"place": "city", "columns": KEY}
                for rule in reversed(some):
                    fields[wrong[rule][0]] = wrong[rule][1]
                self.assertEqual(of_target(**fields), some[0], some)
        both = KEY[:1] + (("land", None),) + KEY[:1]
        self.assertEqual(of_target("city", both, condition=None), "columns")
        last, first = Target("city", KEY, condition=None), Target("zz", KEY)
        self.assertEqual(fault(targets=(CITY, last, first)), (1, "condition"))
        self.assertEqual(fault(targets=(first, last)), (0, "table"))
        self.assertEqual(fault(targets=(CITY,) * 7 + (last,)), (7, "condition"))
        self.assertEqual(fault(targets=(first, None)), (None, "targets"))

    def test_spoiled_at_each_place(self):
        """Whatever stands anywhere, the error is one of the target, and of the part that was spoiled or one behind."""
        columns = KEY + (("name", ("when", ("is", A, "x"), ("map", B, (("y", "z"),)), ("cut", A, 0, 5))),)
        condition = ("either", ("fits", ("decimal", 0, 9, 2), ("join", A, B)), ("not", ("starts", B, "q")))
        news = ODD + OBJECTS + ("a" * 20001, "always", "field", -1, 20001, ("field", "d"))
        for spoiled_columns in spoiled(columns, news):
            told = of_target("city", spoiled_columns, condition=condition)
            self.assertIn(told, ("columns", "expression", None))
        for spoiled_condition in spoiled(condition, news):
            told = of_target("city", columns, condition=spoiled_condition)
            self.assertIn(told, ("condition", None))

    def test_what_is_handed_in_stays(self):
        job = Job(GIVEN, (CITY, Target("road", (("nr", A),), rule="remove")), size=5)
        before = (dict(vars(job)), [dict(vars(target)) for target in job.targets])
        check_job(SCHEMA, job)
        self.assertEqual((vars(job), [vars(target) for target in job.targets]), before)


if __name__ == "__main__":
    unittest.main()
