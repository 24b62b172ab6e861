"""Courses: section 15, and the interface's section on bulkload/courses.py."""

import collections
import random
import unittest

from bulkload.courses import course_of, fault_in, outcomes_told, rows_told
from bulkload.formats import Delimited
from bulkload.jobs import Job, Target
from bulkload.loads import load, trial
from bulkload.schemas import Column, Schema, Table
from bulkload.tables import Database
from bulkload.units import WORDS
from tests.drawn import drawn_job, drawn_schema, drawn_text
from tests.handling_setting import column, free, put, target
from tests.helpers import OBJECTS, ODDITIES, Equal, at_path, caught, nested, with_at_path
from tests.plain_reading import State, plain_load

TABLE = Table("t", (column("k"), free("to"), Column("w", ("truth",), nullable=True)), ("k",),
              references=((("to",), "t", "end"),))
SCHEMA = Schema((TABLE,))
NAMES = ("k", "to", "w")
JOB = Job(Delimited(names=NAMES), (target("insert", "t", NAMES),), size=3)
TEXT = "1,2,\n2,9,\n1,,\n3,,\n3,,\n4,x,\n5,5,\n"
COURSE = (
    (((1, "loaded", "t", (1,), None), (2, "loaded", "t", (2,), ("reference", 0, (9,))),
      (3, "rejected", "t", (1,), ("key",))),
     ((1, "loaded", "t", (1,), ("reference", 0, (2,))),),
     ()),
    (((4, "loaded", "t", (3,), None), (5, "rejected", "t", (3,), ("key",)),
      (6, "rejected", "t", (4,), ("value", "to", "number"))),),
    (((7, "loaded", "t", (5,), None),),))


def fault(course, job=JOB, text=TEXT, database=None):
    return fault_in(Database(SCHEMA) if database is None else database, job, text, course)


def step(number=1, word="loaded", place="t", key=(1,), reason=None):
    return (number, word, place, key, reason)


class Hostile:
    """An object that does not want to be looked at."""

    def refuse(self, *values):
        raise RuntimeError("looked at")

    __eq__ = __ne__ = __hash__ = __len__ = __iter__ = __bool__ = __getitem__ = __lt__ = __repr__ = __str__ = refuse
    __contains__ = __getattr__ = __index__ = __int__ = refuse


class HostileTuple(tuple):
    __eq__ = __ne__ = __len__ = __iter__ = __getitem__ = Hostile.refuse


class HostileText(str):
    __eq__ = __ne__ = __len__ = __iter__ = __getitem__ = __hash__ = Hostile.refuse


class HostileNumber(int):
    __eq__ = __ne__ = __hash__ = __lt__ = __index__ = Hostile.refuse


HOSTILE = (Hostile(), HostileTuple((1, 2)), HostileText("loaded"), HostileNumber(1))


class CourseTest(unittest.TestCase):
    def test_example(self):
        database = Database(SCHEMA)
        self.assertEqual(course_of(database, JOB, TEXT), COURSE)
        self.assertEqual(course_of(database=database, job=JOB, text=TEXT), COURSE)
        self.assertIsNone(fault_in(database=database, job=JOB, text=TEXT, course=COURSE))
        self.assertEqual((database.rows("t"), database.version), ([], 0))
        self.assertEqual(course_of(database, JOB, ""), ())
        self.assertIsNone(fault((), text=""))

    def test_snapshot(self):
        """The database can be a Snapshot."""
        database = Database(SCHEMA)
        put(database, "t", ("9", "", ""))
        shot = database.snapshot()
        load(database, JOB, TEXT)
        course = course_of(shot, JOB, TEXT)
        self.assertEqual(course[0], (((1, "loaded", "t", (1,), None), (2, "loaded", "t", (2,), None),
                                      (3, "rejected", "t", (1,), ("key",))),))
        self.assertIsNone(fault(course, database=shot))
        self.assertEqual(rows_told(shot, JOB, TEXT, course)["t"],
                         [(1, 2, None), (2, 9, None), (3, None, None), (5, 5, None), (9, None, None)])
        self.assertEqual(outcomes_told(shot, JOB, TEXT, course)[1], (2, "loaded", "t", (2,), None, None, None))
        self.assertEqual(shot.rows("t"), [(9, None, None)])

    def test_a_unit_that_stopped(self):
        """It is the last one, and its records have no outcome."""
        job = Job(JOB.form, JOB.targets, size=3, most_rejects=3)
        database = Database(SCHEMA)
        self.assertEqual(course_of(database, job, TEXT), COURSE[:2])
        self.assertIsNone(fault(COURSE[:2], job))
        self.assertEqual(fault(COURSE, job), ("units", 2, None, None))
        self.assertEqual([outcome[0] for outcome in outcomes_told(database, job, TEXT, COURSE[:2])], [1, 2, 3])
        self.assertEqual(rows_told(database, job, TEXT, COURSE[:2]), {"t": []})

    def test_strict(self):
        """Steps are as if the job were not strict; the tables in front of later units are not."""
        job = Job(JOB.form, JOB.targets, size=2, strict=True)
        text = "1,,\n1,,\n1,,\n2,,\n"
        course = ((((1, "loaded", "t", (1,), None), (2, "rejected", "t", (1,), ("key",))),),
                  (((3, "loaded", "t", (1,), None), (4, "loaded", "t", (2,), None)),))
        self.assertEqual(course_of(Database(SCHEMA), job, text), course)
        self.assertIsNone(fault(course, job, text))
        self.assertEqual([outcome[4] for outcome in outcomes_told(Database(SCHEMA), job, text, course)],
                         [("unit", 2), ("key",), None, None])
        self.assertEqual(rows_told(Database(SCHEMA), job, text, course)["t"], [(1, None, None), (2, None, None)])
        loose = Job(JOB.form, JOB.targets, size=2)
        self.assertEqual(fault(course, loose, text), ("step", 1, 0, 0))

    def test_told(self):
        result = trial(Database(SCHEMA), JOB, TEXT)
        told = outcomes_told(database=Database(SCHEMA), job=JOB, text=TEXT, course=COURSE)
        self.assertEqual((type(told), told), (tuple, result.outcomes))
        rows = rows_told(database=Database(SCHEMA), job=JOB, text=TEXT, course=COURSE)
        self.assertEqual(rows, {"t": [(3, None, None), (5, 5, None)]})
        rows["t"].append(1)
        self.assertEqual(len(rows_told(Database(SCHEMA), JOB, TEXT, COURSE)["t"]), 2)


class FormTest(unittest.TestCase):
    """15.2: "form", ahead of all other faults, with the indexes of the first that is not as it should be."""

    def test_no_course(self):
        for value in ODDITIES + OBJECTS + HOSTILE + (list(COURSE), None, "course"):
            if type(value) is not tuple:
                self.assertEqual(fault(value), ("form", None, None, None))

    def test_no_units_and_no_runs(self):
        for value in ODDITIES + OBJECTS + HOSTILE:
            if type(value) is not tuple:
                self.assertEqual(fault((value,)), ("form", 0, None, None))
                self.assertEqual(fault((COURSE[0], value, None)), ("form", 1, None, None))
                self.assertEqual(fault(((value,),)), ("form", 0, 0, None))
                self.assertEqual(fault((COURSE[0], COURSE[0][:2] + (value, None))), ("form", 1, 2, None))
        for value in ODDITIES + OBJECTS + HOSTILE:
            self.assertEqual(fault((((value,),),)), ("form", 0, 0, 0))
            self.assertEqual(fault((COURSE[0], (COURSE[0][0], (step(), value, None)))), ("form", 1, 1, 1))

    def test_steps(self):
        wrong = [step()[:4], step() + (None,), list(step()), ()]
        for place, right in enumerate((int, str, (str, type(None)), (tuple, type(None)), (tuple, type(None)))):
            for value in ODDITIES + OBJECTS + HOSTILE + ("loade", "Loaded"):
                is_right = type(value) in (right if isinstance(right, tuple) else (right,))
                if not is_right or place == 1 and value not in WORDS:
                    wrong.append(with_at_path(step(), (place,), value))
        for value in wrong:
            self.assertEqual(fault((((step(9, "skipped"), value, None),),)), ("form", 0, 0, 1), value[1:2])

    def test_ahead_of_all_others(self):
        """Also where another unit, run or step lies in front of it, or none should be there."""
        self.assertEqual(fault(COURSE + (((None,),),)), ("form", 3, 0, 0))
        self.assertEqual(fault(((), (), (((),),))), ("form", 2, 0, 0))
        self.assertEqual(fault((((step(7),),),) + COURSE[1:2] + (1,)), ("form", 2, None, None))

    def test_the_first_one(self):
        self.assertEqual(fault((((None,), None), None)), ("form", 0, 0, 0))
        self.assertEqual(fault((((), None, (None,)), None)), ("form", 0, 1, None))
        self.assertEqual(fault((((), (step(), None)), ((None,),))), ("form", 0, 1, 1))
        self.assertEqual(fault((((),), None, ((None,),))), ("form", 1, None, None))

    def test_anything_can_be_inside(self):
        """No object in a key or a reason leads to another exception."""
        for value in ODDITIES + OBJECTS + HOSTILE + (nested(tuple, 55), Equal()):
            for key in ((value,), (1, value), ((value,),)):
                if type(value) is not int or value != 1 or key != (1,):
                    self.assertEqual(fault((((step(key=key),),),)), ("step", 0, 0, 0))
            for reason in ((value,), ("reference", value), ("reference", 0, (value,)), ("reference", 0, value)):
                course = (((step(), COURSE[0][0][1][:4] + (reason,)) + COURSE[0][0][2:],) + COURSE[0][1:],) + COURSE[1:]
                self.assertEqual(fault(course), ("end", 0, 0, 1))
                rejected = ((COURSE[0][0][:2] + (COURSE[0][0][2][:4] + (reason,),)),)
                self.assertEqual(fault((rejected,)), ("step", 0, 0, 2))


class FaultTest(unittest.TestCase):
    """15.2: each fault, in its order."""

    def change(self, path, value):
        return fault(with_at_path(COURSE, path, value))

    def test_record(self):
        """Another number, a step that lacks, one too many."""
        self.assertEqual(self.change((0, 0, 1, 0), 3), ("record", 0, 0, 1))
        self.assertEqual(self.change((0, 0), COURSE[0][0][:2]), ("record", 0, 0, 2))
        self.assertEqual(self.change((0, 0), COURSE[0][0] + (step(4),)), ("record", 0, 0, 3))
        self.assertEqual(self.change((0, 1), ()), ("record", 0, 1, 0))
        self.assertEqual(self.change((0, 1), COURSE[0][0][:2]), ("record", 0, 1, 1))
        self.assertEqual(self.change((0, 2), COURSE[0][1]), ("record", 0, 2, 0))
        self.assertEqual(self.change((0, 0), COURSE[0][0][1:]), ("record", 0, 0, 0))
        self.assertEqual(self.change((0, 0), COURSE[0][0][::-1]), ("record", 0, 0, 0))

    def test_step(self):
        """Another word, table or key, or, for rejected, another reason."""
        for path, value in (((0, 0, 0, 1), "replaced"), ((0, 0, 0, 2), "u"), ((0, 0, 0, 2), None), ((0, 0, 0, 3), (2,)),
                            ((0, 0, 0, 3), None), ((0, 0, 0, 3), (True,)), ((0, 0, 0, 3), ()), ((0, 0, 0, 3), (1, 1)),
                            ((0, 0, 2, 4), ("absent",)), ((0, 0, 2, 4), None), ((0, 0, 2, 4), ("key", 0)),
                            ((0, 0, 2, 1), "loaded"), ((1, 0, 2, 4), ("value", "to", "range")),
                            ((1, 0, 2, 3), None), ((1, 0, 0, 1), "rejected"), ((1, 0, 0, 1), "discarded")):
            place = path[2]
            self.assertEqual(self.change(path, value), ("step", path[0], path[1], place))

    def test_true_and_one(self):
        """They are different, also within tuples."""
        table = Table("t", (Column("w", ("truth",)), column("k"), free("to")), ("w", "k"),
                      references=((("w", "to"), "t", "end"),))
        schema = Schema((table,))
        job = Job(Delimited(names=("w", "k", "to")), (target("insert", "t", ("w", "k", "to")),))
        course = course_of(Database(schema), job, "yes,1,0\n")
        self.assertEqual(repr(course), "((((1, 'loaded', 't', (True, 1), ('reference', 0, (True, 0))),), ()),)")
        for path, value, word in (((0, 0, 0, 3), (1, 1), "step"), ((0, 0, 0, 3), (True, True), "step"),
                                  ((0, 0, 0, 4), ("reference", False, (True, 0)), "end"),
                                  ((0, 0, 0, 4), ("reference", 0, (1, 0)), "end"),
                                  ((0, 0, 0, 4), ("reference", 0, (True, False)), "end")):
            told = with_at_path(course, path, value)
            self.assertEqual(told, course)
            self.assertEqual(fault_in(Database(schema), job, "yes,1,0\n", told), (word, 0, 0, 0))

    def test_end(self):
        """Another reason, one that should not be there, or none that should."""
        for path, value in (((0, 0, 0, 4), ("key",)), ((0, 0, 0, 4), ()), ((0, 0, 1, 4), None),
                            ((0, 0, 1, 4), ("reference", 0, (8,))), ((0, 0, 1, 4), ("reference", 1, (9,))),
                            ((0, 1, 0, 4), None), ((1, 0, 0, 4), ("reference", 0, (2,)))):
            self.assertEqual(self.change(path, value), ("end", path[0], path[1], path[2]))

    def test_all_steps_of_a_run_ahead_of_its_ends(self):
        told = with_at_path(COURSE, (0, 0, 0, 4), ("key",))
        self.assertEqual(fault(with_at_path(told, (0, 0, 2, 4), ("absent",))), ("step", 0, 0, 2))
        self.assertEqual(fault(with_at_path(told, (0, 0), told[0][0][:2])), ("record", 0, 0, 2))
        self.assertEqual(fault(with_at_path(told, (0, 1), ())), ("end", 0, 0, 0))
        self.assertEqual(fault(with_at_path(told, (0,), told[0][:1])), ("end", 0, 0, 0))
        self.assertEqual(fault(with_at_path(told, (0, 0, 1, 4), None)), ("end", 0, 0, 0))

    def test_place_by_place(self):
        told = with_at_path(COURSE, (0, 0, 1, 1), "merged")
        self.assertEqual(fault(with_at_path(told, (0, 0), told[0][0][:2])), ("step", 0, 0, 1))
        self.assertEqual(fault(with_at_path(told, (0, 0, 0, 0), 5)), ("record", 0, 0, 0))
        self.assertEqual(fault(with_at_path(told, (0, 0, 2, 0), 5)), ("step", 0, 0, 1))

    def test_runs(self):
        """The first one that is too many, or lacks; its steps are not looked at."""
        self.assertEqual(self.change((0,), COURSE[0][:2]), ("runs", 0, 2, None))
        self.assertEqual(self.change((0,), COURSE[0][:1]), ("runs", 0, 1, None))
        self.assertEqual(self.change((0,), COURSE[0] + ((), ())), ("runs", 0, 3, None))
        self.assertEqual(self.change((0,), COURSE[0] + ((step(9),),)), ("runs", 0, 3, None))
        self.assertEqual(self.change((1,), ()), ("runs", 1, 0, None))
        self.assertEqual(self.change((1,), COURSE[1] * 2), ("runs", 1, 1, None))

    def test_units(self):
        self.assertEqual(fault(()), ("units", 0, None, None))
        self.assertEqual(fault(COURSE[:2]), ("units", 2, None, None))
        self.assertEqual(fault(COURSE + COURSE), ("units", 3, None, None))
        self.assertEqual(fault(COURSE + ((),)), ("units", 3, None, None))
        self.assertEqual(fault(COURSE + (((step(9),),),)), ("units", 3, None, None))
        self.assertEqual(self.change((1,), ()), ("runs", 1, 0, None))

    def test_unit_by_unit(self):
        told = with_at_path(COURSE, (1, 0, 0, 0), 9)
        self.assertEqual(fault(with_at_path(told, (0,), told[0][:2])), ("runs", 0, 2, None))
        self.assertEqual(fault(told[:2]), ("record", 1, 0, 0))
        self.assertEqual(fault(with_at_path(told, (0, 1, 0, 4), None)), ("end", 0, 1, 0))


class ErrorTest(unittest.TestCase):
    calls = (course_of, fault_in, outcomes_told, rows_told)

    def call(self, function, *values):
        return caught(function, *values, *(() if function == course_of else (None,)))

    def test_errors_of_trial(self):
        database = Database(SCHEMA)
        headed = Job(Delimited(), (Target("t", (("k", ("field", "z")),)),))
        for function in self.calls:
            for value in ODDITIES:
                if not isinstance(value, str):
                    self.assertEqual(self.call(function, database, Job(None, ()), value), ("BadText", None))
            self.assertEqual(self.call(function, database, Job(None, ()), "a\t"), ("BadText", 1))
            self.assertEqual(self.call(function, database, Job(None, ()), ""), ("BadJob", None, "format"))
            self.assertEqual(self.call(function, database, headed, ""), ("BadHeader", "none"))
            self.assertEqual(self.call(function, database, headed, "k\n"), ("BadJob", 0, "expression"))

    def test_bad_courses(self):
        """Behind the others."""
        for function in (outcomes_told, rows_told):
            for value in ODDITIES + HOSTILE + (COURSE[:1], COURSE + ((),), with_at_path(COURSE, (0, 0, 0, 4), ())):
                told = fault(value)
                database = Database(SCHEMA)
                self.assertEqual(caught(function, database, JOB, TEXT, value), ("BadCourse",) + told)
                self.assertEqual((database.rows("t"), database.version), ([], 0))


class DrawnTest(unittest.TestCase):
    def cases(self, word, count, most=20):
        for seed in range(count):
            draw = random.Random(f"{word} {seed}")
            schema = drawn_schema(draw)
            database, state = Database(schema), State(schema)
            first = drawn_job(draw, schema)
            text = drawn_text(draw, schema, first, 10)
            load(database, first, text)
            plain_load(state, first, text)
            job = drawn_job(draw, schema)
            yield draw, database, state, job, drawn_text(draw, schema, job, most)

    def test_courses_and_what_follows(self):
        """The course is that of a plain reading, and the outcomes and rows told are those of the load."""
        for _, database, state, job, text in self.cases("courses", 200):
            course = course_of(database, job, text)
            plain = plain_load(state, job, text)
            self.assertEqual(repr(course), repr(tuple(plain.course)))
            self.assertIsNone(fault_in(database, job, text, course))
            outcomes = outcomes_told(database, job, text, course)
            rows = rows_told(database, job, text, course)
            self.assertEqual(fault_in(database, job, text, course), None)
            result = load(database, job, text)
            self.assertEqual(outcomes, result.outcomes)
            self.assertEqual(rows, {title: database.rows(title) for title in database.schema.titles})
            if not job.strict:
                self.assertEqual(following(course, result.status), {outcome[0]: (outcome[1], outcome[4], outcome[5])
                                                                    for outcome in outcomes})

    def test_what_differs(self):
        """The fault is at the first place at which an object differs from the course (15.3)."""
        seen = collections.Counter()
        for draw, database, _, job, text in self.cases("faults", 200):
            course = course_of(database, job, text)
            for _ in range(5):
                told = changed(draw, course)
                expected = first_difference(told, course)
                self.assertEqual(fault_in(database, job, text, told), expected)
                seen[expected[0] if expected else None] += 1
        for word in ("record", "step", "end", "runs", "units", "form"):
            self.assertGreater(seen[word], 5)

    def test_the_course_of_another_load(self):
        for draw, database, _, job, text in self.cases("others", 100):
            other = drawn_text(draw, database.schema, job, 20)
            course = course_of(database, job, other)
            self.assertEqual(fault_in(database, job, text, course),
                             first_difference(course, course_of(database, job, text)))


def following(course, status):
    """15.3: word, first reason and its run of each record, of a job that is not strict."""
    found = {}
    for runs in course if status == "done" else course[:-1]:
        for run, steps in enumerate(runs):
            for number, word, _, _, reason in steps:
                found[number] = (word, None, None) if reason is None else ("rejected", reason, run + 1)
    return found


def changed(draw, course):
    """A course with something else at a drawn place."""
    path = ()
    while draw.random() < 0.9 and isinstance(at_path(course, path), tuple) and at_path(course, path):
        path += (draw.randrange(len(at_path(course, path))),)
        if len(path) == 5:
            break
    here = at_path(course, path)
    news = [None, "skipped", "rejected", (1,), (), ("key",), 1, 7, True]
    if isinstance(here, tuple):
        news += [here[:-1], here + here[-1:], here[1:], here + ((),), here[::-1]] * 3
    told = with_at_path(course, path, draw.choice(news))
    return told if draw.random() < 0.7 else changed(draw, told)


def has_form(step):
    return (type(step) is tuple and len(step) == 5 and type(step[0]) is int and step[1] in WORDS
            and type(step[2]) in (str, type(None)) and all(type(step[at]) in (tuple, type(None)) for at in (3, 4)))


def first_difference(told, course):
    """A plain reading of 15.2, beside the right course; values are compared as they are shown."""
    if type(told) is not tuple:
        return ("form", None, None, None)
    for u, unit in enumerate(told):
        if type(unit) is not tuple:
            return ("form", u, None, None)
        for r, run in enumerate(unit):
            if type(run) is not tuple:
                return ("form", u, r, None)
            for p, each in enumerate(run):
                if not has_form(each):
                    return ("form", u, r, p)
    for u, runs in enumerate(course[:len(told)]):
        for r, steps in enumerate(runs[:len(told[u])]):
            mine = told[u][r]
            for p in range(max(len(mine), len(steps))):
                if p >= min(len(mine), len(steps)) or mine[p][0] != steps[p][0]:
                    return ("record", u, r, p)
                many = 5 if steps[p][1] == "rejected" else 4
                if repr(mine[p][:many]) != repr(steps[p][:many]):
                    return ("step", u, r, p)
            for p, each in enumerate(steps):
                if repr(mine[p]) != repr(each):
                    return ("end", u, r, p)
        if len(told[u]) != len(runs):
            return ("runs", u, min(len(told[u]), len(runs)), None)
    return None if len(told) == len(course) else ("units", min(len(told), len(course)), None, None)


if __name__ == "__main__":
    unittest.main()
