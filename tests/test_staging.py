"""Staging: section 12, and the interface's section on bulkload/staging.py."""

import itertools
import random
import unittest

from bulkload.formats import Delimited, Fixed
from bulkload.jobs import Job, Target
from bulkload.loads import load
from bulkload.pieces import summary
from bulkload.schemas import Column, Schema, Table
from bulkload.staging import Staging
from bulkload.tables import Database
from tests.drawn import drawn_job, drawn_schema, drawn_text
from tests.handling_setting import column, free
from tests.helpers import ODDITIES, OBJECTS, caught
from tests.plain_reading import read

TABLE = Table("t", (column("k"), free("a")), ("k",))
SCHEMA = Schema((TABLE,))
PAIRS = (("k", ("field", "k")), ("a", ("field", "a")))
JOB = Job(Delimited(names=("k", "a")), (Target("t", PAIRS, condition=("not", ("is", ("field", "k"), "z"))),), size=2)
HEADED = Job(Delimited(), (Target("t", PAIRS),))


def record_places(form, text):
    """(begin, end, whether it is complete with its line feed) of each record, that of a header included."""
    cut = form.cut_piece(text, False)
    places, at = [], 0
    for whole in cut[:-1]:
        places.append((at, at + len(whole), True))
        at += len(whole)
    return places + ([(at, len(text), False)] if cut[-1] else [])


def plain_ready(form, text, cuts, states):
    """Which parts can be worked on, as 12.1 has it."""
    bounds = (0,) + cuts + (len(text),)
    found = []
    for k, state in enumerate(states):
        begun = [place for place in record_places(form, text) if bounds[k] <= place[0] < bounds[k + 1]]
        last = k
        if begun and not begun[-1][2]:
            last = len(states) - 1
        elif begun:
            while bounds[last + 1] < begun[-1][1]:
                last += 1
        looked = all(other != "new" for other in states[:last + 1])
        if state == "new" or state == "looked" and looked:
            found.append(k)
    return tuple(found)


def all_work(staging):
    """Does all that can be done, first things first."""
    while staging.ready():
        staging.work(staging.ready()[0])


class WorkTest(unittest.TestCase):
    text = "1,2\n3,x\nz,\n4\n"

    def staging(self, *cuts, text=text, job=JOB):
        return Staging(SCHEMA, job, text, cuts)

    def test_parts(self):
        staging = Staging(schema=SCHEMA, job=JOB, text=self.text, cuts=(4, 6, 6, 13))
        self.assertEqual(len(staging), 5)
        self.assertEqual([staging.part(k) for k in range(5)], ["1,2\n", "3,", "", "x\nz,\n4\n", ""])
        self.assertEqual([staging.state(k=k) for k in range(5)], ["new"] * 5)
        self.assertEqual([staging.seen(k=k) for k in range(5)], [None] * 5)
        self.assertEqual([staging.prepared(k=k) for k in range(5)], [None] * 5)
        self.assertEqual(len(self.staging()), 1)
        self.assertEqual(self.staging().part(k=0), self.text)

    def test_halves(self):
        staging = self.staging(4, 6, 6)
        self.assertEqual(staging.ready(), (0, 1, 2, 3))
        self.assertEqual(staging.work(k=0), "looked")
        self.assertEqual((staging.state(0), staging.seen(0)), ("looked", summary(JOB.form, "1,2\n")))
        self.assertEqual(staging.ready(), (0, 1, 2, 3))
        self.assertEqual(staging.work(0), "prepared")
        self.assertEqual((staging.state(0), staging.prepared(0)), ("prepared", ((1, "t", None),)))
        self.assertEqual(staging.ready(), (1, 2, 3))
        self.assertEqual(caught(staging.work, 0), ("Ready", 0))
        self.assertEqual(staging.work(1), "looked")
        self.assertEqual(caught(staging.work, 1), ("NotReady", 1))
        self.assertEqual(staging.ready(), (2, 3))
        self.assertEqual(staging.work(3), "looked")
        self.assertEqual(caught(staging.work, 1), ("NotReady", 1))
        self.assertEqual(caught(staging.work, 3), ("NotReady", 3))
        self.assertEqual(staging.work(2), "looked")
        self.assertEqual(staging.ready(), (1, 2, 3))
        self.assertEqual([staging.work(3), staging.work(1), staging.work(2)], ["prepared"] * 3)
        self.assertEqual([staging.prepared(k) for k in (1, 2, 3)], [
            ((2, "t", ("value", "a", "number")),), (), ((3, None, None), (4, None, ("format", "fields")))])
        self.assertEqual((staging.ready(), staging.seen(1)), ((), summary(JOB.form, "3,")))

    def test_a_part_in_which_no_record_begins(self):
        """It waits only for what is in front of it."""
        staging = self.staging(2, 3, 8)
        staging.work(1)
        self.assertEqual(caught(staging.work, 1), ("NotReady", 1))
        staging.work(0)
        self.assertEqual((staging.work(1), staging.prepared(1)), ("prepared", ()))
        self.assertEqual(caught(staging.work, 0), ("NotReady", 0))
        staging.work(2)
        self.assertEqual((staging.work(0), staging.work(2)), ("prepared", "prepared"))
        self.assertEqual(staging.prepared(2), ((2, "t", ("value", "a", "number")),))

    def test_a_record_without_a_line_feed(self):
        """All parts must be looked at, empty ones at the end, too."""
        text = "1,2\n3,4"
        staging = self.staging(4, 6, 7, 7, text=text)
        for k in (0, 1, 2, 3):
            staging.work(k)
        self.assertEqual(staging.ready(), (0, 2, 3, 4))
        staging.work(4)
        self.assertEqual((staging.work(1), staging.prepared(1)), ("prepared", ((2, "t", None),)))

    def test_a_line_feed_inside_at_the_end(self):
        """A text that ends inside ends without a line feed that ends a record."""
        staging = self.staging(4, text='1,"\n')
        staging.work(0)
        self.assertEqual(staging.ready(), (1,))
        staging.work(1)
        self.assertEqual((staging.work(0), staging.prepared(0)), ("prepared", ((1, None, ("format", "quote")),)))

    def test_a_header_over_several_parts(self):
        text = "k,a\n1,2\n"
        staging = self.staging(1, 3, text=text, job=HEADED)
        staging.work(0)
        self.assertEqual(caught(staging.work, 0), ("NotReady", 0))
        staging.work(1)
        self.assertEqual((staging.work(1), staging.prepared(1)), ("prepared", ()))
        self.assertEqual(caught(staging.work, 0), ("NotReady", 0))
        staging.work(2)
        self.assertEqual((staging.work(2), staging.prepared(2)), ("prepared", ((1, "t", None),)))
        self.assertEqual((staging.work(0), staging.prepared(0)), ("prepared", ()))

    def test_records_that_are_not_taken(self):
        job = Job(JOB.form, JOB.targets, skip_first=1, at_most=1)
        staging = self.staging(4, job=job)
        all_work(staging)
        self.assertEqual([staging.prepared(k) for k in (0, 1)], [(), ((2, "t", ("value", "a", "number")),)])

    def test_empty_text(self):
        staging = self.staging(0, 0, text="")
        self.assertEqual((len(staging), staging.ready()), (3, (0, 1, 2)))
        all_work(staging)
        self.assertEqual([staging.prepared(k) for k in range(3)], [(), (), ()])
        self.assertEqual(len(staging.result(Database(SCHEMA))), 0)

    def test_result(self):
        staging = self.staging(4, 6)
        database = Database(SCHEMA)
        for k in (2, 1, 0, 0):
            self.assertEqual(caught(staging.result, database), ("NotReady", 0))
            staging.work(k)
        self.assertEqual(caught(staging.result, database), ("NotReady", 1))
        staging.work(2)
        self.assertEqual(caught(staging.result, database), ("NotReady", 1))
        staging.work(1)
        self.assertEqual((database.rows("t"), database.version), ([], 0))
        result = staging.result(database=database)
        other = Database(SCHEMA)
        self.assertEqual(result.outcomes, load(other, JOB, self.text).outcomes)
        self.assertEqual((database.rows("t"), database.version), (other.rows("t"), other.version))
        # It is a load once more.
        self.assertEqual(staging.result(database).outcomes, load(other, JOB, self.text).outcomes)
        self.assertEqual((database.rows("t"), database.version), (other.rows("t"), other.version))


class ErrorTest(unittest.TestCase):
    def test_making(self):
        """BadJob, BadText, BadCuts, BadHeader, and what hangs on the header."""
        wrong = Job(None, ())
        lost = Job(Delimited(), (Target("t", (("k", ("field", "z")),)),))
        for value in ODDITIES:
            if not isinstance(value, (Delimited, Fixed)):
                self.assertEqual(caught(Staging, SCHEMA, Job(value, JOB.targets), None, None), ("BadJob", None, "format"))
            if not isinstance(value, str):
                self.assertEqual(caught(Staging, SCHEMA, JOB, value, None), ("BadText", None))
        self.assertEqual(caught(Staging, SCHEMA, wrong, None, None), ("BadJob", None, "format"))
        self.assertEqual(caught(Staging, SCHEMA, lost, "a\t", None), ("BadText", 1))
        for value in ODDITIES + OBJECTS + ((5,), (-1,), (2, 1), (0, True), (None,), ("1",), (0,) * 101, [0], ((0,),),
                                           (1, 2, 5), (4, 4, 3)):
            if not isinstance(value, tuple) or value not in ((), (1,)):
                with self.assertRaises(ValueError) as told:
                    Staging(SCHEMA, lost, "x\ny\n", value)
                self.assertEqual(type(told.exception).__name__, "BadCuts")
                self.assertIs(told.exception.value, value)
        self.assertEqual(caught(Staging, SCHEMA, lost, "", ()), ("BadHeader", "none"))
        self.assertEqual(caught(Staging, SCHEMA, lost, "k,k\n", ()), ("BadHeader", "twice"))
        self.assertEqual(caught(Staging, SCHEMA, lost, "k,a\n", ()), ("BadJob", 0, "expression"))
        self.assertEqual(len(Staging(SCHEMA, JOB, "x\ny\n", (0,) * 50 + (4,) * 50)), 101)

    def test_no_part(self):
        staging = Staging(SCHEMA, JOB, "1,2\n", (1,))
        all_work(staging)
        for call in (staging.part, staging.state, staging.work, staging.seen, staging.prepared):
            for value in ODDITIES + OBJECTS + (2, -1, "0", (0,)):
                if not (type(value) is int and 0 <= value <= 1):
                    with self.assertRaises(ValueError) as told:
                        call(value)
                    self.assertEqual(type(told.exception).__name__, "BadPart")
                    self.assertIs(told.exception.value, value)


class DrawnTest(unittest.TestCase):
    def prepared(self, schema, job, text, cuts):
        """What a plain reading prepares, part by part."""
        bounds = (0,) + cuts + (len(text),)
        places = record_places(job.form, text)
        first = 0 if job.form.names is None else 1
        found = [[] for _ in range(len(cuts) + 1)]
        for record in read(schema, job, text):
            begin = places[record.number - first][0]
            k = [k for k in range(len(found)) if bounds[k] <= begin < bounds[k + 1]][0]
            found[k].append((record.number, record.place, record.fault))
        return [tuple(part) for part in found]

    def check(self, schema, job, text, cuts, draw):
        staging = Staging(schema, job, text, cuts)
        while True:
            states = [staging.state(k) for k in range(len(staging))]
            ready = staging.ready()
            self.assertEqual(ready, plain_ready(job.form, text, cuts, states))
            for k in range(len(staging)):
                if k not in ready:
                    self.assertEqual(caught(staging.work, k),
                                     ("Ready" if states[k] == "prepared" else "NotReady", k))
            if not ready:
                break
            k = draw.choice(ready)
            self.assertEqual(staging.work(k), {"new": "looked", "looked": "prepared"}[states[k]])
        self.assertEqual(set(states), {"prepared"})
        self.assertEqual([staging.prepared(k) for k in range(len(staging))], self.prepared(schema, job, text, cuts))
        return staging

    def test_drawn_texts(self):
        for seed in range(150):
            draw = random.Random(f"staging {seed}")
            schema = drawn_schema(draw)
            job = drawn_job(draw, schema)
            text = drawn_text(draw, schema, job, 12)
            cuts = tuple(sorted(draw.randint(0, len(text)) for _ in range(draw.randint(0, 6))))
            with self.subTest(seed=seed):
                staging = self.check(schema, job, text, cuts, draw)
                one, other = Database(schema), Database(schema)
                self.assertEqual(staging.result(one).outcomes, load(other, job, text).outcomes)
                for title in schema.titles:
                    self.assertEqual(one.rows(title), other.rows(title))

    def test_each_place(self):
        """Texts that are cut at each place, and at each two."""
        draw = random.Random(12)
        for text, job in (('k,"a"\n1,"x\n"\n3,4', HEADED), ('1,2\n"3\n",\n\n', JOB)):
            for first, second in itertools.combinations_with_replacement(range(len(text) + 1), 2):
                self.check(SCHEMA, job, text, (first, second), draw)

    def test_all_orders(self):
        """Of the halves for three parts."""
        text, cuts = 'k,a\n1,"\n"\n2,3', (2, 9)
        orders = {order for order in itertools.permutations((0, 0, 1, 1, 2, 2))}
        done = 0
        for order in orders:
            staging = Staging(SCHEMA, HEADED, text, cuts)
            states = ["new"] * 3
            for k in order:
                if k not in plain_ready(HEADED.form, text, cuts, states):
                    self.assertEqual(caught(staging.work, k), ("NotReady", k))
                    break
                states[k] = staging.work(k)
            if states == ["prepared"] * 3:
                done += 1
                self.assertEqual([staging.prepared(k) for k in range(3)],
                                 [(), ((1, "t", ("value", "a", "number")),), ((2, "t", None),)])
        self.assertGreater(done, 2)

    def test_fixed(self):
        form = Fixed((("k", 1, "left", " "), ("a", 1, "left", " ")))
        job = Job(form, (Target("t", PAIRS),))
        draw = random.Random(5)
        text = '12\n"x\n3 \n4\n56'
        for first, second in itertools.combinations_with_replacement(range(len(text) + 1), 2):
            self.check(SCHEMA, job, text, (first, second), draw)


if __name__ == "__main__":
    unittest.main()
