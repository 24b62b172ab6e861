"""Written rows: 4.6."""

import itertools
import unittest

from bulkload.formats import Delimited, Fixed, records, written
from tests.helpers import FIXED, FORMS, ODD, Equal, caught

TITLES = tuple("t" + str(n) for n in range(31))
TWO = Delimited(names=("a", "b"))
ONE = Delimited(names=("a",))


def read_back(form, text):
    """The rows of a text, the header among them."""
    return tuple(fields for _, _, _, fields, _ in records(form, text))


class DelimitedTest(unittest.TestCase):
    def test_rows(self):
        self.assertEqual(written(TWO, ()), "")
        self.assertEqual(written(TWO, (("1", "2"),)), "1,2\n")
        self.assertEqual(written(TWO, (("1", None), (None, ""), (None, None))), '1,\n,""\n,\n')
        self.assertEqual(written(rows=(("x",), (None,)), form=ONE, names=None), "x\n\n")

    def test_fields(self):
        told = {"a": "a", " a ": " a ", "": '""', "a,b": '"a,b"', '"': '""""', 'a"b': '"a""b"', "\n": '"\n"',
                '""': '""""""', ",": '","', "a\nb": '"a\nb"', "'": "'", ";": ";", "NA": "NA", None: ""}
        for field, part in told.items():
            self.assertEqual(written(TWO, ((field, "x"),)), part + ",x\n")
            self.assertEqual(written(TWO, (("x", field),)), "x," + part + "\n")

    def test_null_mark(self):
        form = Delimited(names=("a", "b"), null="NA")
        self.assertEqual(written(form, ((None, "NA"), ("", "na"), ("NAN", None))), 'NA,"NA"\n,na\nNAN,NA\n')

    def test_other_signs(self):
        form = Delimited(mark="x", quote="q", null="n", names=("a", "b"))
        self.assertEqual(written(form, (("axb", "aq"), (None, "n"), (",", '"'))), "qaxbqxqaqqq\nnxqnq\n,x\"\n")

    def test_header(self):
        form = Delimited()
        self.assertEqual(written(form, (), names=("id", "name")), "id,name\n")
        self.assertEqual(written(form, (("1", None),), names=("id", "name")), "id,name\n1,\n")
        self.assertEqual(written(Delimited(null="id", mark="m"), ((None, "id"),), names=("id", "name")),
                         '"id"m"name"\nidm"id"\n')
        self.assertEqual(written(form, (), names=TITLES[:30]), ",".join(TITLES[:30]) + "\n")

    def test_reading_back(self):
        fields = (None, "", "a", "x", ",", '"', "\n", 'x"', '"",', "\n\n", "aa")
        rows = tuple(itertools.product(fields, repeat=2))
        for mark, quote, null in itertools.product(",xa", '"\n'[:1] + "'a", ("", "a", "x", "b\\")):
            if mark == quote or mark in null or quote in null:
                continue
            form = Delimited(mark=mark, quote=quote, null=null)
            given = form.with_names(("a", "xa"))
            for row in rows:
                self.assertEqual(read_back(given, written(given, (row,))), (row,))
            self.assertEqual(read_back(given, written(given, rows)), rows)
            self.assertEqual(read_back(form, written(form, rows, names=("a", "xa"))), (("a", "xa"),) + rows)
            one = form.with_names(("a",))
            alone = tuple((field,) for field in fields)
            self.assertEqual(read_back(one, written(one, alone)), alone)


class FixedTest(unittest.TestCase):
    def test_rows(self):
        self.assertEqual(written(FIXED, ()), "")
        self.assertEqual(written(FIXED, (("7", "x"), ("10", " y"), (None, None), ("70", None))),
                         "07x  \n10 y \n00   \n70   \n")

    def test_cannot_be_written(self):
        wrong = {0: ("", "123", "\n", "1\n", "0", "01", "00"), 1: ("", "1234", "\n", "a\nb", " ", "a ", "a  ")}
        for index, fields in wrong.items():
            for field in fields:
                row = (field, "b") if index == 0 else ("1", field)
                self.assertEqual(caught(written, FIXED, (("1", "b"), row)), ("BadRow", 1, index), row)
        both = Fixed((("a", 3, "left", "x"), ("b", 3, "right", "x")))
        self.assertEqual(written(both, (("axx", "xxa"), ("a", "a"), ("axa", "axa"))), "axxxxa\nxxaaxx\naxaaxa\n")

    def test_reading_back(self):
        fields = [None] + ["".join(signs) for size in (1, 2, 3) for signs in itertools.product('a0 ",', repeat=size)]
        for pad in 'a0 "':
            form = Fixed((("a", 3, "left", pad), ("b", 3, "right", pad)))
            lefts = [field for field in fields if field is None or field[0] != pad]
            rights = [field for field in fields if field is None or field[-1] != pad]
            for one, other in zip(lefts, rights):
                self.assertEqual(read_back(form, written(form, ((one, other),))), ((one, other),))
            for field in fields:
                if field is not None and field[0] == pad:
                    self.assertEqual(caught(written, form, ((field, None),)), ("BadRow", 0, 0))
                if field is not None and field[-1] == pad:
                    self.assertEqual(caught(written, form, ((None, field),)), ("BadRow", 0, 1))


class RefusedTest(unittest.TestCase):
    def test_forms(self):
        for value in ODD + ("", "a", Delimited, (TWO,)):
            self.assertEqual(caught(written, value, ()), ("BadFormat", None))
            self.assertEqual(caught(written, value, None, names=[]), ("BadFormat", None))

    def test_names(self):
        wrong = ODD + ("a", ["a"], ("a", "a"), ("A",), ("",), ("a" * 21,), TITLES, (("a",),), ("a", None), ("\u00e9",))
        for names in wrong:
            if isinstance(names, Equal) or names != ("a",):
                self.assertEqual(caught(written, Delimited(), (), names=names), ("BadFormat", "names"))
                self.assertEqual(caught(written, Delimited(), None, names=names), ("BadFormat", "names"))
        self.assertEqual(caught(written, Delimited(), ()), ("BadFormat", "names"))
        self.assertEqual(caught(written, Delimited(), [1]), ("BadFormat", "names"))
        for form in (TWO, FIXED):
            for names in wrong + (("a", "b"),):
                if names is not None:
                    self.assertEqual(caught(written, form, (), names=names), ("BadFormat", "names"))
                    self.assertEqual(caught(written, form, [], names=names), ("BadFormat", "names"))

    def test_names_only_by_name(self):
        with self.assertRaises(TypeError):
            written(Delimited(), (), ("a",))

    def test_rows(self):
        for form in (TWO, FIXED):
            for value in ODD + ("", "ab", [("1", "2")], {("1", "2"): 1}) + FORMS:
                if not isinstance(value, tuple):
                    self.assertEqual(caught(written, form, value), ("BadRow", None, None))
                if not isinstance(value, tuple) or len(value) != 2:
                    self.assertEqual(caught(written, form, (("1", "2"), value)), ("BadRow", 1, None))
            for row in ((), ("1",), ("1", "2", "3"), ["1", "2"], "12", None, (None,), {"1": 1, "2": 2}):
                self.assertEqual(caught(written, form, (row,)), ("BadRow", 0, None))
                self.assertEqual(caught(written, form, (("1", "2"), ("1", None), row, row)), ("BadRow", 2, None))
        self.assertEqual(caught(written, Delimited(), (("1", "2"),), names=("a",)), ("BadRow", 0, None))
        self.assertEqual(caught(written, Delimited(), (("1",), ("1", "2")), names=("a", "b")), ("BadRow", 0, None))

    def test_fields(self):
        wrong = [value for value in ODD if value is not None]
        wrong += ["\u00e9", "a\u0025", "\t", ("a",), ["a"], TWO, b"a"]
        for form in (TWO, FIXED):
            for value in wrong:
                self.assertEqual(caught(written, form, ((value, "x"),)), ("BadRow", 0, 0))
                self.assertEqual(caught(written, form, (("x", "x"), ("x", value))), ("BadRow", 1, 1))
                self.assertEqual(caught(written, form, ((value, value),)), ("BadRow", 0, 0))

    def test_long_fields(self):
        """A string of more than 20,000 characters is no text (2.4)."""
        for size in (20001, 20002, 10 ** 6):
            for sign in ("x", '"', "\n"):
                field = sign * size
                self.assertEqual(caught(written, ONE, ((field,),)), ("BadRow", 0, 0))
                self.assertEqual(caught(written, TWO, (("1", "2"), ("3", field), ())), ("BadRow", 1, 1))
                self.assertEqual(caught(written, TWO, (("x" * 20000, None), (field, 7))), ("BadRow", 1, 0))
                self.assertEqual(caught(written, Delimited(), ((None, field),), names=("a", "b")), ("BadRow", 0, 1))
                self.assertEqual(caught(written, Delimited(), ((field,),)), ("BadFormat", "names"))
                self.assertEqual(caught(written, FIXED, ((None, field), (field, None))), ("BadRow", 0, 1))
        for row in (("x" * 20000, 7), ('"' * 20000, "y" * 20001)):
            self.assertEqual(caught(written, TWO, (row,)), ("BadRow", 0, 1))

    def test_which_comes_first(self):
        self.assertEqual(caught(written, TWO, (("1", 1), ("1",), None)), ("BadRow", 0, 1))
        self.assertEqual(caught(written, TWO, (("1",), ("1", 1))), ("BadRow", 0, None))
        self.assertEqual(caught(written, TWO, ((1, 2, 3),)), ("BadRow", 0, None))
        self.assertEqual(caught(written, FIXED, (("", 1), (1, 1))), ("BadRow", 0, 0))
        self.assertEqual(caught(written, FIXED, (("1", "\t"), (1, 1))), ("BadRow", 0, 1))
        self.assertEqual(caught(written, TWO, (("x" * 19000, "y" * 19000), (1, ""))), ("BadRow", 1, 0))
        self.assertEqual(caught(written, TWO, (("x" * 19000, "y" * 19000), ("1",))), ("BadRow", 1, None))
        self.assertEqual(caught(written, TWO, (("x" * 20000, "y"),) * 2 + ((1, ""),)), ("BadRow", 2, 0))

    def test_length(self):
        self.assertEqual(len(written(ONE, (("x" * 19999,),))), 20000)
        self.assertEqual(caught(written, ONE, (("x" * 20000,),)), ("BadText", 20000))
        self.assertEqual(caught(written, ONE, (('"' * 20000,),)), ("BadText", 20000))
        self.assertEqual(len(written(ONE, (('"' * 9998 + "x",),))), 20000)
        self.assertEqual(caught(written, ONE, (('"' * 9998 + "xx",),)), ("BadText", 20000))
        self.assertEqual(len(written(ONE, ((None,),) * 20000)), 20000)
        self.assertEqual(caught(written, ONE, ((None,),) * 20001), ("BadText", 20000))
        self.assertEqual(len(written(Delimited(), (("x" * 19997,),), names=("a",))), 20000)
        self.assertEqual(caught(written, Delimited(), (("x" * 19998,),), names=("a",)), ("BadText", 20000))
        four = Fixed((("a", 4, "left", " "),))
        self.assertEqual(len(written(four, (("a",),) * 4000)), 20000)
        self.assertEqual(caught(written, four, (("a",),) * 4001), ("BadText", 20000))


if __name__ == "__main__":
    unittest.main()
