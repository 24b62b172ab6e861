"""Units: 8.3, 9.1, and the interface's section on bulkload/units.py."""

import random
import unittest

from bulkload.formats import Delimited, Fixed
from bulkload.jobs import Job, Target
from bulkload.schemas import Column, Schema, Table
from bulkload.units import WORDS, cut_units
from tests.drawn import drawn_job, drawn_schema, drawn_text
from tests.helpers import ODDITIES, caught
from tests.plain_reading import cut, read

SCHEMA = Schema((Table("t", (Column("k", ("int", 0, 9)), Column("w", ("text", 5), nullable=True)), ("k",)),))
KEY = (("k", ("field", "k")),)
PUT = Target("t", KEY, condition=("is", ("field", "to"), "p"), rule="replace")
REMOVE = Target("t", KEY, condition=("is", ("field", "to"), "r"), rule="remove")
NAMED = Delimited(names=("to", "k"))


def text_of(letters, end="\n"):
    """A record for each letter: p and r go to the targets, d to none, and f has a fault."""
    lines = {"p": "p,1", "r": "r,1", "d": "d,1", "f": "p,1,1", "q": 'p,"'}
    return "\n".join(lines[letter] for letter in letters) + (end if letters else "")


def units(letters, end="\n", header=False, targets=(PUT, REMOVE), **settings):
    job = Job(Delimited() if header else NAMED, targets, **settings)
    return cut_units(SCHEMA, job, ("to,k\n" if header else "") + text_of(letters, end))


class CutTest(unittest.TestCase):
    def test_words(self):
        self.assertEqual(WORDS, ("loaded", "replaced", "merged", "changed", "removed", "skipped", "discarded",
                                 "rejected"))

    def test_sizes(self):
        self.assertEqual(units("ppppp", size=2), ((1, 2), (3, 4), (5,)))
        self.assertEqual(units("pppp", size=2), ((1, 2), (3, 4)))
        self.assertEqual(units("ppp", size=1), ((1,), (2,), (3,)))
        self.assertEqual(units("ppp"), ((1, 2, 3),))
        self.assertEqual(units("p" * 21), (tuple(range(1, 11)), tuple(range(11, 21)), (21,)))
        self.assertEqual(units("p" * 101, size=100), (tuple(range(1, 101)), (101,)))
        self.assertEqual(units("ppp", end="", size=2), ((1, 2), (3,)))

    def test_removals(self):
        """A removal is a unit of its own, and counting begins anew behind it."""
        self.assertEqual(units("prpppp", size=2), ((1,), (2,), (3, 4), (5, 6)))
        self.assertEqual(units("pprp", size=2), ((1, 2), (3,), (4,)))
        self.assertEqual(units("rr", size=3), ((1,), (2,)))
        self.assertEqual(units("pppr", size=2), ((1, 2), (3,), (4,)))
        self.assertEqual(units("rpppp", size=3), ((1,), (2, 3, 4), (5,)))

    def test_faults_and_records_without_a_target(self):
        """They are in units as others are; a fault keeps a record from each target."""
        self.assertEqual(units("pdfdr", size=2), ((1, 2), (3, 4), (5,)))
        always = Target("t", KEY, rule="remove")
        self.assertEqual(units("ff", targets=(always,), size=2), ((1, 2),))
        self.assertEqual(units("pfq", targets=(always,), size=2), ((1,), (2, 3)))

    def test_the_first_target_counts(self):
        always = Target("t", KEY, rule="remove")
        self.assertEqual(units("pprd", targets=(PUT, always), size=5), ((1, 2), (3,), (4,)))
        self.assertEqual(units("pprd", targets=(always, PUT), size=5), ((1,), (2,), (3,), (4,)))

    def test_taken(self):
        """8.3."""
        self.assertEqual(units("pppppp", skip_first=2, size=3), ((3, 4, 5), (6,)))
        self.assertEqual(units("pppppp", at_most=4, size=3), ((1, 2, 3), (4,)))
        self.assertEqual(units("pppppp", skip_first=1, at_most=3, size=2), ((2, 3), (4,)))
        self.assertEqual(units("rrpp", skip_first=1, at_most=2, size=2), ((2,), (3,)))
        self.assertEqual(units("ppp", at_most=0), ())
        self.assertEqual(units("ppp", skip_first=3), ())
        self.assertEqual(units("ppp", skip_first=10 ** 30, at_most=10 ** 30), ())
        self.assertEqual(units("ppp", skip_first=2, at_most=10 ** 30), ((3,),))

    def test_header(self):
        self.assertEqual(units("ppp", header=True, size=2), ((1, 2), (3,)))
        self.assertEqual(units("ppp", header=True, skip_first=1), ((2, 3),))
        self.assertEqual(units("", header=True), ())

    def test_no_records(self):
        self.assertEqual(units(""), ())
        self.assertEqual(cut_units(schema=SCHEMA, job=Job(NAMED, (PUT,)), text=""), ())

    def test_numbers_in_conditions(self):
        odd = Target("t", KEY, condition=("either", ("is", ("number",), "2"), ("is", ("number",), "4")), rule="remove")
        self.assertEqual(units("ppppp", targets=(odd, PUT), skip_first=1, size=9), ((2,), (3,), (4,), (5,)))

    def test_not_of_the_tables(self):
        """A value that is none of its kind, or a missing key, does not matter."""
        job = Job(NAMED, (PUT, REMOVE), size=2)
        self.assertEqual(cut_units(SCHEMA, job, "p,x\np,\nr,\nr,x\n"), ((1, 2), (3,), (4,)))

    def test_drawn(self):
        draw = random.Random(91)
        for _ in range(300):
            schema = drawn_schema(draw)
            job = drawn_job(draw, schema)
            text = drawn_text(draw, schema, job)
            plain = tuple(tuple(record.number for record in unit) for unit in cut(job, read(schema, job, text)))
            self.assertEqual(cut_units(schema, job, text), plain)


class ErrorTest(unittest.TestCase):
    """As load: BadText, those of check_job, BadHeader, and what hangs on the header."""

    def test_text(self):
        for value in ODDITIES:
            if not isinstance(value, str):
                self.assertEqual(caught(cut_units, SCHEMA, Job(None, ()), value), ("BadText", None))
        self.assertEqual(caught(cut_units, SCHEMA, Job(None, ()), "ab\t"), ("BadText", 2))
        self.assertEqual(caught(cut_units, SCHEMA, Job(None, ()), "a" * 20001), ("BadText", 20000))

    def test_job(self):
        for value in ODDITIES:
            if not isinstance(value, (Delimited, Fixed)):
                self.assertEqual(caught(cut_units, SCHEMA, Job(value, (PUT,)), ""), ("BadJob", None, "format"))
        self.assertEqual(caught(cut_units, SCHEMA, Job(Delimited(), (PUT,), size=0), ""), ("BadJob", None, "size"))
        wrong = Target("t", (("k", ("field", "z")),))
        self.assertEqual(caught(cut_units, SCHEMA, Job(NAMED, (PUT, wrong)), ""), ("BadJob", 1, "expression"))

    def test_header(self):
        job = Job(Delimited(), (Target("t", (("k", ("field", "z")),)),))
        for text, cause in (("", "none"), ('a"\n', "quote"), ("a" + ",a" * 30, "many"), ("a,B\n", "title"),
                            ("a,a\n", "twice")):
            self.assertEqual(caught(cut_units, SCHEMA, job, text), ("BadHeader", cause))

    def test_fields_of_the_header(self):
        """Target by target, for each first its expressions, then its condition."""
        lost = Target("t", KEY, condition=("missing", ("field", "z")))
        both = Target("t", (("k", ("field", "y")),), condition=("missing", ("field", "z")))
        for targets, told in (((PUT, lost, both), (1, "condition")), ((PUT, both, lost), (1, "expression")),
                              ((both,), (0, "expression"))):
            job = Job(Delimited(), targets)
            self.assertEqual(caught(cut_units, SCHEMA, job, "to,k\n"), ("BadJob",) + told)
        self.assertEqual(cut_units(SCHEMA, Job(Delimited(), (PUT, lost, both)), "to,k,z,y\n"), ())


if __name__ == "__main__":
    unittest.main()
