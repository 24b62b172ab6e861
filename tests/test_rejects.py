"""Rejects: section 13, and the interface's section on bulkload/rejects.py."""

import random
import unittest

from bulkload.formats import Delimited, records
from bulkload.loads import load
from bulkload.rejects import read_rejects, source_of, write_rejects
from bulkload.tables import Database
from tests.drawn import NAMES, drawn_job, drawn_schema, drawn_text
from tests.helpers import OBJECTS, ODDITIES, Equal, caught

REJECTS = ((1, 1, ("key",), "a,b\n"), (3, 4, ("value", "name", "length"), 'x,"\n"'),
           (20000, 20000, ("reference", 0), "\n"))
TEXT = 'reject 1 1 4 key\na,b\nreject 3 4 5 value name length\nx,"\n"\nreject 20000 20000 1 reference 0\n\n'


def reject(number=1, line=1, reason=("key",), text="a\n"):
    return (number, line, reason, text)


def row(words, text="a\n"):
    return words + "\n" + text


class WriteTest(unittest.TestCase):
    def test_example(self):
        self.assertEqual(write_rejects(REJECTS), TEXT)
        self.assertEqual(write_rejects(rejects=()), "")
        self.assertEqual(read_rejects(TEXT), REJECTS)
        self.assertEqual(read_rejects(string=""), ())

    def test_line_feeds(self):
        """One behind a text just if it does not end with one."""
        self.assertEqual(write_rejects((reject(text="a"),)), "reject 1 1 1 key\na\n")
        self.assertEqual(write_rejects((reject(text="a\n"),)), "reject 1 1 2 key\na\n")
        self.assertEqual(write_rejects((reject(text="\n\n"),)), "reject 1 1 2 key\n\n\n")
        self.assertEqual(source_of((reject(text="a"), reject(2, text="b\n"), reject(3, text="\n"))), "a\nb\n\n")
        self.assertEqual(source_of(rejects=()), "")

    def test_reasons(self):
        for reason, words in ((("a",), "a"), (("a", 0), "a 0"), (("a", 20000, "b_1"), "a 20000 b_1"),
                              (("a" * 20, "b", 7), "a" * 20 + " b 7"), (("unit", 12, 13), "unit 12 13")):
            written = write_rejects((reject(reason=reason),))
            self.assertEqual(written, f"reject 1 1 2 {words}\na\n")
            self.assertEqual(read_rejects(written), (reject(reason=reason),))

    def test_long_texts(self):
        """The text of rejects can be longer than 20,000 characters."""
        rejects = tuple(reject(at, text="x" * 19999 + end) for at, end in ((1, "y"), (2, "\n"), (9, "z")))
        written = write_rejects(rejects)
        self.assertEqual(len(written), 60000 + 2 + 3 * len("reject 1 1 20000 key\n"))
        self.assertEqual(read_rejects(written), rejects)
        self.assertEqual(caught(write_rejects, (reject(text="x" * 20001),)), ("BadRejects", 0))

    def test_no_rejects(self):
        for call in (write_rejects, source_of):
            for value in ODDITIES + OBJECTS + ([REJECTS[0]],):
                if not isinstance(value, tuple):
                    self.assertEqual(caught(call, value), ("BadRejects", None))
                elif value != ():
                    self.assertEqual(caught(call, value), ("BadRejects", 0))

    def test_wrong_rejects(self):
        wrong = [reject(number) for number in (0, 20001, -1, True, "1", None)]
        wrong += [reject(1, line) for line in (0, 20001, -1, True, "1", None)]
        wrong += [reject(reason=reason) for reason in (
            (), ("a", "b", "c", "d"), (1,), ("A",), ("",), ("a", "B"), ("a", -1), ("a", 20001), ("a", True),
            ("a", None), ("a", ("b",)), ["a"], "a", None, ("a" * 21,), ("1",), ("a", "1"))]
        wrong += [reject(text=text) for text in ("", "\t", "\u0025", "\u00e9", None, 1, b"a", "a" * 20001)]
        wrong += [reject()[:3], reject() + (None,), list(reject()), Equal()] + [value for value in ODDITIES]
        for call in (write_rejects, source_of):
            for value in wrong:
                self.assertEqual(caught(call, (value,)), ("BadRejects", 0))
                self.assertEqual(caught(call, (reject(), value, None)), ("BadRejects", 1))

    def test_each_odd_value_at_each_place(self):
        for place in range(4):
            for value in ODDITIES:
                fields = list(reject())
                fields[place] = value
                right = (place == 0 and value == 1 or place == 1 and value == 1) and type(value) is int
                right = right or place == 3 and isinstance(value, str) and value in ("a", "int", "yes")
                right = right or place == 2 and type(value) is tuple and value == ("a",)
                if not right:
                    self.assertEqual(caught(write_rejects, (tuple(fields),)), ("BadRejects", 0), (place,))

    def test_ascending_numbers(self):
        """Lines may be anything."""
        self.assertEqual(caught(write_rejects, (reject(2), reject(2))), ("BadRejects", 1))
        self.assertEqual(caught(source_of, (reject(2), reject(3), reject(1), None)), ("BadRejects", 2))
        rejects = (reject(2, 5), reject(3, 1))
        self.assertEqual(read_rejects(write_rejects(rejects)), rejects)


class ReadTest(unittest.TestCase):
    def test_no_string(self):
        for value in ODDITIES + OBJECTS:
            if not isinstance(value, str):
                self.assertEqual(caught(read_rejects, value), ("BadText", None))

    def test_wrong_rows(self):
        for words in ("", "reject", "reject 1 1 2", "reject 1 1 2 ", "Reject 1 1 2 key", " reject 1 1 2 key",
                      "reject  1 1 2 key", "reject 1  1 2 key", "reject 1 1 2  key", "reject 1 1 2 key ",
                      "reject 1 1 2 key  a", "reject 01 1 2 key", "reject 1 01 2 key", "reject 1 1 02 key",
                      "reject +1 1 2 key", "reject -1 1 2 key", "reject 0 1 2 key", "reject 1 0 2 key",
                      "reject 1 1 0 key", "reject 20001 1 2 key", "reject 1 20001 2 key", "reject 1 1 2 Key",
                      "reject 1 1 2 1", "reject 1 1 2 a b c d", "reject 1 1 2 a 01", "reject 1 1 2 a 20001",
                      "reject 1 1 2 a -1", "reject 1 1 2 a B", "reject 1 1 2 a 1_0", "reject x 1 2 key",
                      "reject 1 x 2 key", "reject 1 1 x key", "reject 1 1 2 key\t", "reject\t1 1 2 key",
                      "reject \u00b2 1 2 key", "reject \u0661 1 2 key", "reject 1 1 \u0662 key", "reject 1 1 2 a \u0661",
                      "reject " + "9" * 5000 + " 1 2 key", "reject 1 1 " + "9" * 5000 + " key", "discard 1 1 2 key",
                      "reject 1 1 2 " + "a" * 21, "reject 1 1 20001 key"):
            for front in ("", TEXT[:21], "reject 1 1 1 key\nx\n"):
                string = front + row(words.replace("reject 1 ", "reject 2 ", 1) if front else words)
                self.assertEqual(caught(read_rejects, string), ("BadText", len(front)), words)
        self.assertEqual(read_rejects(row("reject 1 1 2 key")), (reject(),))

    def test_numbers_that_do_not_ascend(self):
        string = row("reject 5 1 2 key")
        for number in (5, 4, 1):
            self.assertEqual(caught(read_rejects, string + row(f"reject {number} 1 2 key")), ("BadText", len(string)))
        self.assertEqual(len(read_rejects(string + row("reject 6 1 2 key"))), 2)

    def test_texts_that_are_not_there_as_told(self):
        for string in ("reject 1 1 2 key", "reject 1 1 2 key\n", "reject 1 1 2 key\na", "reject 1 1 2 key\nab",
                       "reject 1 1 1 key\na", "reject 1 1 1 key\nab\n", "reject 1 1 3 key\na\n",
                       "reject 1 1 2 key\na\t\n", "reject 1 1 2 key\n\u0025\n", "reject 1 1 3 key\n\u00e9\n\n",
                       "reject 1 1 20000 key\na\n"):
            self.assertEqual(caught(read_rejects, string), ("BadText", 0), string)
            front = row("reject 1 1 2 key")
            behind = string.replace("reject 1", "reject 2")
            self.assertEqual(caught(read_rejects, front + behind), ("BadText", len(front)), string)

    def test_what_follows_a_text(self):
        """A line feed too many is the first character of a row that is none."""
        self.assertEqual(caught(read_rejects, row("reject 1 1 2 key") + "\n"), ("BadText", 19))
        self.assertEqual(caught(read_rejects, row("reject 1 1 2 key", "a\n\n")), ("BadText", 19))
        self.assertEqual(read_rejects(row("reject 1 1 3 key", "a\n\n")), (reject(text="a\n\n"),))

    def test_texts_like_rows(self):
        rejects = (reject(text=TEXT), reject(2, text="reject 3 1 1 key"), reject(3, text="\n"))
        self.assertEqual(read_rejects(write_rejects(rejects)), rejects)

    def test_every_change_of_one_character(self):
        """What is read is written so, and nothing else."""
        for at in range(len(TEXT)):
            for sign in ("", "0", "1", " ", "\n", "a", "x", "r", "\u0025", TEXT[at] * 2):
                string = TEXT[:at] + sign + TEXT[at + 1:]
                try:
                    found = read_rejects(string)
                except ValueError as error:
                    self.assertEqual(type(error).__name__, "BadText")
                    self.assertEqual(write_rejects(read_rejects(string[:error.index])), string[:error.index])
                else:
                    self.assertEqual(write_rejects(found), string)


class LoadTest(unittest.TestCase):
    def test_rejects_of_drawn_loads(self):
        """They are written and read back, and the source has just these records: 13.2."""
        for seed in range(300):
            draw = random.Random(f"rejects {seed}")
            schema = drawn_schema(draw)
            job = drawn_job(draw, schema)
            text = drawn_text(draw, schema, job)
            rejects = load(Database(schema), job, text).rejects
            self.assertEqual(read_rejects(write_rejects(rejects)), rejects)
            named = job.form.with_names(NAMES)
            whole = {record[0]: record for record in records(job.form, text)}
            source = records(named, source_of(rejects))
            self.assertEqual(len(source), len(rejects))
            for (number, line, _, record), told in zip(rejects, source):
                self.assertEqual((record, line), (whole[number][2], whole[number][1]))
                self.assertEqual(told[2].removesuffix("\n"), record.removesuffix("\n"))
                self.assertEqual(told[3:], whole[number][3:])

    def test_loaded_once_more(self):
        """What is corrected can be loaded."""
        draw = random.Random(13)
        schema = drawn_schema(draw)
        job = drawn_job(draw, schema, form=Delimited(names=NAMES), strict=False, most_rejects=None, skip_first=0,
                        at_most=None)
        rejects = load(Database(schema), job, drawn_text(draw, schema, job)).rejects
        again = load(Database(schema), job, source_of(rejects))
        self.assertEqual(len(again), len(rejects))


if __name__ == "__main__":
    unittest.main()
