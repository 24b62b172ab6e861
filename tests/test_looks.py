"""Looking at loads: section 14, and the interface's section on bulkload/looks.py."""

import itertools
import random
import unittest

from bulkload.formats import Delimited
from bulkload.jobs import Job, Target
from bulkload.loads import load, trial
from bulkload.looks import blame, influence, load_order
from bulkload.schemas import Column, Schema, Table
from bulkload.tables import Database
from tests.drawn import drawn_job, drawn_schema, drawn_text
from tests.handling_setting import column, free, put, run, target
from tests.helpers import OBJECTS, ODDITIES, caught
from tests.plain_reading import State, plain_load


def schema_of(*tables, tally=None):
    """Tables with the titles to which they refer: "a" or "a:bc"; the one that is a tally table is named in the last."""
    made = []
    for words in tables:
        title, _, others = words.partition(":")
        columns = (column("k"),) + tuple(free(f"r{at}") for at in range(len(others)))
        references = tuple(((f"r{at}",), other, "now" if at % 2 else "end") for at, other in enumerate(others))
        tallies = ((tally, ("k",), None, "n"),) if tally and title != tally and words == tables[-1] else ()
        if title == tally:
            columns = (column("k"), column("n"))
        made.append(Table(title, columns, ("k",), references=references, tallies=tallies))
    return Schema(tuple(made))


class OrderTest(unittest.TestCase):
    """14.1."""

    def test_without_references(self):
        self.assertEqual(load_order(schema_of("c", "a", "b")), (("c",), ("a",), ("b",)))
        self.assertEqual(load_order(schema=schema_of("c")), (("c",),))

    def test_behind_those_to_which_they_refer(self):
        self.assertEqual(load_order(schema_of("a:b", "b:c", "c")), (("c",), ("b",), ("a",)))
        self.assertEqual(load_order(schema_of("a:d", "b", "c", "d")), (("b",), ("c",), ("d",), ("a",)))
        self.assertEqual(load_order(schema_of("b:d", "a", "d:e", "e")), (("a",), ("e",), ("d",), ("b",)))

    def test_the_first_that_can_be_next(self):
        """A table comes as soon as it can, ahead of others that stand behind it in the schema."""
        self.assertEqual(load_order(schema_of("a:c", "b", "c", "d:e", "e", "f")),
                         (("b",), ("c",), ("a",), ("e",), ("d",), ("f",)))

    def test_own_references(self):
        self.assertEqual(load_order(schema_of("a:a", "b:ba")), (("a",), ("b",)))

    def test_rings(self):
        self.assertEqual(load_order(schema_of("a:b", "b:a")), (("a", "b"),))
        self.assertEqual(load_order(schema_of("x:b", "b:c", "c:a", "a:bd", "d", "e")),
                         (("d",), ("b", "c", "a"), ("x",), ("e",)))
        self.assertEqual(load_order(schema_of("a:c", "b:d", "c:a", "d:b")), (("a", "c"), ("b", "d")))
        self.assertEqual(load_order(schema_of("a:cd", "b:d", "c:a", "d:b")), (("b", "d"), ("a", "c")))
        self.assertEqual(load_order(schema_of("a:ba", "b:ca", "c:abb")), (("a", "b", "c"),))

    def test_tally_tables(self):
        """They are in no group."""
        self.assertEqual(load_order(schema_of("t", "b:a", "a", tally="t")), (("a",), ("b",)))

    def test_drawn(self):
        """Against a plain reading: of all groups of mutual reach, one by one the first that can be next."""
        for seed in range(300):
            draw = random.Random(f"order {seed}")
            titles = draw.sample("abcdefghijkl", draw.randint(1, 12))
            words = [title + ":" + "".join(draw.sample(titles, draw.choice((0, 0, 1, 1, 2)) % (len(titles) + 1)))
                     for title in titles]
            schema = schema_of(*[word.rstrip(":") for word in words])
            leads = {title: {reference[1] for reference in schema.table_of(title).references} for title in titles}
            reach = {(one, other) for one in titles for other in leads[one]}
            for middle, one, other in itertools.product(titles, repeat=3):
                if (one, middle) in reach and (middle, other) in reach:
                    reach.add((one, other))
            groups = [tuple(other for other in titles if other == one or (one, other) in reach and (other, one) in reach)
                      for one in titles]
            left = [group for at, group in enumerate(groups) if group not in groups[:at]]
            found = []
            while left:
                group = [group for group in left if not any(
                    (one, other) in reach for one in group for rest in left if rest != group for other in rest)][0]
                left.remove(group)
                found.append(group)
            self.assertEqual(load_order(schema), tuple(found))


NODE = Table("node", (column("id"), free("up"), free("u")), ("id",), uniques=(("u",),),
             references=((("up",), "node", "end"),))
SCHEMA = Schema((NODE,))
NAMES = ("id", "up", "u")
JOB = Job(Delimited(names=NAMES), (target("insert", "node", NAMES),))


def chains(*lines, job=JOB, database=None):
    """The chains of all rejected records."""
    result = trial(Database(SCHEMA) if database is None else database, job, "".join(line + "\n" for line in lines))
    return {outcome[0]: blame(result, outcome[0]) for outcome in result.outcomes if outcome[1] == "rejected"}


class BlameTest(unittest.TestCase):
    """14.2."""

    def test_references(self):
        """From record to record, to the one that refers to nothing."""
        self.assertEqual(chains("1,2,", "2,3,", "3,9,", "4,,"), {1: (1, 2, 3), 2: (2, 3), 3: (3,)})

    def test_the_least_number(self):
        self.assertEqual(chains("1,2,", "2,9,", "2,x,", "2,7,"), {1: (1, 2), 2: (2,), 3: (3,), 4: (4, 2)})
        self.assertEqual(chains("2,x,", "1,2,"), {1: (1,), 2: (2, 1)})

    def test_a_chain_has_no_number_twice(self):
        """Records that refer to one another, of which one falls for another reason."""
        self.assertEqual(chains("1,2,", "2,1,5", "3,,5", "3,,5"), {3: (3,), 4: (4,)})
        self.assertEqual(chains("3,,5", "1,2,", "2,1,5"), {2: (2, 3), 3: (3,)})
        job = Job(JOB.form, (target("merge", "node", NAMES),))
        self.assertEqual(chains("1,2,", "2,1,", "2,9,", job=job), {3: (3,)})
        # Record 1 refers to row 2, which nobody loads, and record 2 to row 1; the third one is rejected for its key.
        self.assertEqual(chains("1,2,", "2,1,x", "2,1,x"), {1: (1, 2), 2: (2,), 3: (3,)})

    def test_what_stands_in_the_way(self):
        """If it is rejected itself."""
        self.assertEqual(chains("1,9,", "1,,", "2,,5", "3,,5"), {1: (1,), 2: (2, 1), 4: (4,)})
        self.assertEqual(chains("1,9,5", "2,,5"), {1: (1,), 2: (2, 1)})
        self.assertEqual(chains("1,2,5", "2,3,", "3,9,", "4,,5"), {1: (1, 2, 3), 2: (2, 3), 3: (3,), 4: (4, 1, 2, 3)})

    def test_nothing_in_the_way(self):
        """0 is no number of a record."""
        database = Database(SCHEMA)
        put(database, "node", ("1", "", "5"))
        self.assertEqual(chains("1,,", "2,,5", database=database), {1: (1,), 2: (2,)})

    def test_strict(self):
        job = Job(JOB.form, JOB.targets, strict=True)
        self.assertEqual(chains("1,2,", "2,9,", "3,,", job=job), {1: (1, 2), 2: (2,), 3: (3, 1, 2)})

    def test_absent_records_are_passed_over(self):
        """And so are records of other tables, with other keys, and those that are not rejected."""
        other = Table("other", (column("id"), free("up")), ("id",))
        schema = Schema((Table("node", NODE.columns, ("id",), references=((("up",), "other", "now"),)), other))
        names = ("to", "id", "up")
        pairs = (("id", ("field", "id")), ("up", ("field", "up")))
        targets = tuple(Target(place, pairs, rule=rule, condition=("is", ("field", "to"), sign))
                        for sign, place, rule in (("n", "node", "insert"), ("o", "other", "insert"),
                                                  ("c", "other", "change"), ("m", "node", "change")))
        result = run(Database(schema), names, targets,
                     "n,1,5\nc,5,\nm,5,\no,6,x\no,5,x\nn,2,5\nn,3,6\no,7,\nn,4,7\nz,5,\no,\n")
        self.assertEqual({outcome[0]: blame(result, outcome[0]) for outcome in result.outcomes
                          if outcome[1] == "rejected"},
                         {1: (1, 5), 2: (2,), 3: (3,), 4: (4,), 5: (5,), 6: (6, 5), 7: (7, 4), 11: (11,)})

    def test_errors(self):
        """NoRecord ahead of NotRejected."""
        result = trial(Database(SCHEMA), JOB, "1,,\n2,9,\n")
        for value in ODDITIES + OBJECTS + (3, "1"):
            if not (type(value) is int and 1 <= value <= 2):
                with self.assertRaises(ValueError) as told:
                    blame(result, value)
                self.assertEqual(type(told.exception).__name__, "NoRecord")
                self.assertIs(told.exception.number, value)
        self.assertEqual(caught(blame, result, 1), ("NotRejected", 1))
        self.assertEqual(blame(result=result, number=2), (2,))
        stopped = trial(Database(SCHEMA), Job(JOB.form, JOB.targets, most_rejects=0), "1,9,\n")
        self.assertEqual(caught(blame, stopped, 1), ("NoRecord", 1))

    def test_a_long_chain(self):
        table = Table("node", (Column("id", ("int", 0, 999)), Column("up", ("int", 0, 9999), nullable=True)), ("id",),
                      references=((("up",), "node", "end"),))
        job = Job(Delimited(names=NAMES[:2]), (target("insert", "node", NAMES[:2]),), size=100)
        result = trial(Database(Schema((table,))), job, "".join(f"{at},{at + 1}\n" for at in range(99)) + "99,x\n")
        self.assertEqual(blame(result, 1), tuple(range(1, 101)))
        now = Table("node", table.columns, ("id",), references=((("up",), "node", "now"),))
        result = trial(Database(Schema((now,))), job, "5,6\n6,5\n" * 1000)
        self.assertEqual(blame(result, 1), tuple(range(1, 2001)))

    def test_drawn(self):
        """Against a plain reading of 14.2 on the outcomes."""
        longest = 0
        for seed in range(400):
            draw = random.Random(f"blame {seed}")
            schema = drawn_schema(draw)
            job = drawn_job(draw, schema)
            result = trial(Database(schema), job, drawn_text(draw, schema, job))
            rejected = {outcome[0]: outcome for outcome in result.outcomes if outcome[1] == "rejected"}
            for number in rejected:
                chain = [number]
                while True:
                    _, _, place, _, reason, _, way = rejected[chain[-1]]
                    found = [way]
                    if reason[0] == "reference":
                        to = schema.table_of(place).references[reason[1]][1]
                        found = [other for other in sorted(rejected) if rejected[other][2:4] == (to, reason[2])
                                 and rejected[other][4] != ("absent",)]
                    found = [other for other in found if other in rejected and other not in chain]
                    if not found:
                        break
                    chain.append(found[0])
                self.assertEqual(blame(result, number), tuple(chain))
                longest = max(longest, len(chain))
        self.assertGreater(longest, 3)


class InfluenceTest(unittest.TestCase):
    """14.3."""

    def influences(self, *lines, job=JOB, database=None):
        text = "".join(line + "\n" for line in lines)
        database = Database(SCHEMA) if database is None else database
        return [influence(database, job, text, number + 1) for number in range(len(lines))]

    def test_examples(self):
        self.assertEqual(self.influences("1,2,", "2,,", "3,1,"), [(3,), (1, 3), ()])
        self.assertEqual(self.influences("1,,", "1,,", "1,,"), [(2,), (), ()])
        self.assertEqual(self.influences("1,,5", "2,,5", "3,2,"), [(2, 3), (), ()])
        self.assertEqual(self.influences("1,2,", "2,9,"), [(), ()])

    def test_what_counts(self):
        """Another word, reason or key; not what stands in the way, nor the run."""
        job = Job(JOB.form, (target("merge", "node", NAMES),))
        self.assertEqual(self.influences("1,,5", "1,,5", "2,,5", job=job), [(2,), (), ()])
        self.assertEqual(self.influences("1,2,", "2,3,", "3,9,"), [(), (), ()])

    def test_removals_stay_units_of_their_own(self):
        targets = (target("remove", "node", ("id",), condition=("is", ("field", "u"), "9")),
                   target("insert", "node", NAMES))
        job = Job(JOB.form, targets)
        # Record 1 refers to row 2, which comes behind the removal, so in another unit.
        self.assertEqual(self.influences("1,2,", "3,,9", "2,,", job=job), [(), (), ()])
        self.assertEqual(self.influences("1,,", "1,,9", "1,,", job=job), [(2,), (3,), ()])

    def test_outcomes_in_one_of_both_loads_only(self):
        job = Job(JOB.form, JOB.targets, most_rejects=1, size=1)
        self.assertEqual(self.influences("1,x,", "2,,", "2,,", "3,,", job=job), [(3, 4), (3, 4), (4,), ()])

    def test_strict(self):
        job = Job(JOB.form, JOB.targets, strict=True, size=3)
        self.assertEqual(self.influences("1,,", "2,,", "x,,", "4,,", job=job), [(), (), (1, 2), ()])

    def test_errors(self):
        """Those of trial, then NoRecord for any value that is no number of a taken record."""
        database = Database(SCHEMA)
        put(database, "node", ("8", "", ""))
        text = "1,,\n2,9,\n3,,\n4,,\n"
        job = Job(JOB.form, JOB.targets, skip_first=1, at_most=2)
        for value in ODDITIES + OBJECTS + (4, 1, "2"):
            if not (type(value) is int and 2 <= value <= 3):
                with self.assertRaises(ValueError) as told:
                    influence(database, job, text, value)
                self.assertEqual(type(told.exception).__name__, "NoRecord")
                self.assertIs(told.exception.number, value)
        self.assertEqual(caught(influence, database, Job(None, ()), 5, None), ("BadText", None))
        self.assertEqual(caught(influence, database, Job(None, ()), text, None), ("BadJob", None, "format"))
        headed = Job(Delimited(), (target("insert", "node", NAMES),))
        self.assertEqual(caught(influence, database, headed, "", None), ("BadHeader", "none"))
        self.assertEqual(caught(influence, database, headed, "id,up\n1,2\n", 9), ("BadJob", 0, "expression"))
        self.assertEqual(influence(database=database, job=job, text=text, number=2), ())
        # A record without an outcome is a taken one.
        stopping = Job(JOB.form, JOB.targets, most_rejects=0)
        self.assertEqual(influence(database, stopping, text, 2), (1, 3, 4))
        self.assertEqual((database.rows("node"), database.version), ([(8, None, None)], 1))

    def test_drawn(self):
        """Against two plain loads."""
        for seed in range(60):
            draw = random.Random(f"influence {seed}")
            schema = drawn_schema(draw)
            first = drawn_job(draw, schema)
            lines = drawn_text(draw, schema, first, 10)
            database, state = Database(schema), State(schema)
            load(database, first, lines)
            plain_load(state, first, lines)
            job = drawn_job(draw, schema)
            text = drawn_text(draw, schema, job, 15)
            for number in plain(schema, state, job, text, ())[1]:
                before, taken = plain(schema, state, job, text, ())
                behind, _ = plain(schema, state, job, text, (number,))
                expected = tuple(other for other in sorted(taken) if other != number
                                 and before.get(other) != behind.get(other))
                self.assertEqual(influence(database, job, text, number), expected)


def plain(schema, state, job, text, without):
    """What 14.3 compares of a plain load, and the numbers of the taken records."""
    copied = State(schema)
    copied.tables, copied.numbers, copied.version = state.tables, state.numbers, state.version
    told = plain_load(copied, job, text, without=without)
    return {outcome[0]: (outcome[1], outcome[3], outcome[4]) for outcome in told.outcomes}, list(told.records)


if __name__ == "__main__":
    unittest.main()
