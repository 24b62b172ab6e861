"""Values: 3.1 to 3.3, with 2.1 to 2.4 as far as they show here."""

import datetime
import unittest

from bulkload.values import are_alike, convert, is_kind, is_value, show
from tests.helpers import ODDITIES, Equal, caught, every_text

NINES = 10 ** 18 - 1
WORDS = tuple("w" + str(n) for n in range(21))
INT = ("int", -50, 150)
PRICE = ("decimal", -9999, 99999, 2)
TEXT = ("text", 3)
CHOICE = ("choice", ("red", "Red", "a\nb", "yes"))
TRUTH = ("truth",)
DATE = ("date",)
KINDS = (INT, PRICE, TEXT, CHOICE, TRUTH, DATE)


class KindTest(unittest.TestCase):
    def check(self, right, wrong):
        for value in right:
            self.assertIs(is_kind(value), True, value)
        for value in wrong:
            self.assertIs(is_kind(value), False, value)
            self.assertEqual(caught(is_value, value, 1), ("BadKind", value))
            self.assertEqual(caught(convert, value, ""), ("BadKind", value))
            self.assertEqual(caught(show, value, 1), ("BadKind", value))

    def test_int(self):
        right = (("int", 0, 0), ("int", -NINES, NINES), ("int", -3, -2), ("int", NINES, NINES), ("int", 5, 6))
        wrong = (("int", 1, 0), ("int", -NINES - 1, 0), ("int", 0, NINES + 1), ("int", 10 ** 4000, 10 ** 4000),
                 ("int", 0), ("int",), ("int", 0, 1, 2), ("int", False, 1), ("int", 0, True), ("int", None, 1),
                 ("int", 0, None), ("int", "0", "1"), ("int", (0,), 1), ("Int", 0, 1), ("int ", 0, 1))
        self.check(right, wrong)

    def test_decimal(self):
        right = [("decimal", 0, 0, 1), ("decimal", -NINES, NINES, 9), ("decimal", 3, 4, 5)]
        wrong = [("decimal", 0, 1, 0), ("decimal", 0, 1, 10), ("decimal", 0, 1, -1), ("decimal", 0, 1),
                 ("decimal", 0, 1, True), ("decimal", 0, 1, None), ("decimal", 0, 1, "1"), ("decimal", 1, 0, 1),
                 ("decimal", 0, 1, 1, 1), ("decimal", -NINES - 1, 0, 1), ("decimal", 0, NINES + 1, 1),
                 ("decimal", True, 2, 1), ("decimal", 0, 10 ** 4000, 1), ("decimal",)]
        self.check(right, wrong)

    def test_text(self):
        right = (("text", 1), ("text", 2), ("text", 999), ("text", 1000))
        wrong = (("text", 0), ("text", 1001), ("text", -1), ("text",), ("text", 1, 2), ("text", True),
                 ("text", None), ("text", "1"), ("text", 10 ** 4000))
        self.check(right, wrong)

    def test_choice(self):
        right = (("choice", ("a",)), ("choice", WORDS[:20]), ("choice", ("a" * 20,)), ("choice", ("a", "A")),
                 ("choice", (" ", "\n", "a b")))
        wrong = (("choice", ()), ("choice", WORDS), ("choice", ("",)), ("choice", ("a" * 21,)),
                 ("choice", ("a", "b", "a")), ("choice", ["a"]), ("choice", "a"), ("choice", (1,)),
                 ("choice", ("a", None)), ("choice", (["a"], "b")), ("choice", ("\u00e9",)), ("choice", ("\u0025",)),
                 ("choice", ("\t",)), ("choice",), ("choice", ("a",), ("b",)), ("choice", "a", "b"),
                 ("choice", ("a", b"b")), ("choice", {"a": 1}))
        self.check(right, wrong)

    def test_truth_and_date(self):
        self.check((("truth",), ("date",)), (("truth", True), ("date", 1), ("truth", None), ("date", ()), ("dates",)))

    def test_any_value(self):
        self.check((), ODDITIES)
        self.check((), (["int", 0, 1], (), ("number", 0, 1), (1, 0, 1), (None,), ((("date",),),), "date", [("date",)],
                        (Equal(), 0, 1), (Equal(),)))
        for value in ODDITIES:
            self.check((), [(value,), ("int", value), ("text", value, value), ("truth", value), ("date", value)])
            if not isinstance(value, int) or isinstance(value, bool):
                self.check((), [("int", value, 9), ("int", -9, value), ("decimal", 0, 1, value), ("text", value)])
            if not isinstance(value, str):
                self.check((), [("choice", (value, "b")), ("choice", ("b", value))])
            if not isinstance(value, tuple):
                self.check((), [("choice", value)])


class ValueTest(unittest.TestCase):
    def check(self, kind, right, wrong):
        for value in right:
            self.assertIs(is_value(kind, value), True, value)
        for value in wrong:
            self.assertIs(is_value(kind, value), False, value)
            self.assertEqual(caught(show, kind, value), ("BadValue", value))

    def test_numbers(self):
        self.check(INT, (-50, -1, 0, 1, 150), (-51, 151, True, False, "1", None, (1,), [1], 10 ** 30))
        self.check(("int", 7, 7), (7,), (6, 8, "7", Equal()))
        self.check(("int", 0, 1), (0, 1), (True, False))
        self.check(PRICE, (-9999, 0, 99999), (-10000, 100000, "1.5", True, None))

    def test_texts(self):
        self.check(TEXT, ("", "a", "abc", "\n\n\n", " ~"),
                   ("abcd", None, 1, b"a", ("a",), "\u00e9", "\u0025", "\t", "\x7f"))
        self.check(("text", 1000), ("a" * 1000,), ("a" * 1001,))

    def test_choices(self):
        self.check(CHOICE, ("red", "Red", "a\nb", "yes"), ("", "RED", "re", None, 1, ("red",), True, Equal()))

    def test_truths(self):
        self.check(TRUTH, (True, False), (0, 1, "yes", "no", None, (), Equal()))

    def test_dates(self):
        self.check(DATE, (1, 2, 3652058, 3652059), (0, -1, 3652060, True, "0001-01-01", None, 10 ** 30))

    def test_any_value(self):
        for kind in KINDS:
            for value in ODDITIES:
                right = self.is_right(kind, value)
                self.check(kind, (value,) if right else (), () if right else (value,))

    def is_right(self, kind, value):
        """Which of the odd values are values of these kinds."""
        if isinstance(value, bool):
            return kind == TRUTH
        if isinstance(value, int):
            return abs(value) <= 1 and (kind in (INT, PRICE) or kind == DATE and value == 1)
        if isinstance(value, str):
            return kind == TEXT and value in ("", "a", "int", "yes") or kind == CHOICE and value == "yes"
        return False

    def test_alike(self):
        pairs = (
            (("int", 0, 1), ("int", 5, 6), True), (("int", 0, 1), ("decimal", 0, 1, 1), False),
            (("decimal", 0, 1, 1), ("decimal", 5, 6, 1), True), (("decimal", 0, 1, 1), ("decimal", 0, 1, 2), False),
            (("text", 1), ("text", 9), True), (("text", 1), ("choice", ("a",)), False),
            (("choice", ("a",)), ("choice", ("b", "c")), True), (("truth",), ("truth",), True),
            (("date",), ("date",), True), (("date",), ("truth",), False), (("int", 0, 1), ("date",), False),
        )
        for one, other, alike in pairs:
            self.assertIs(are_alike(one, other), alike)
            self.assertIs(are_alike(other=one, one=other), alike)


class ConvertTest(unittest.TestCase):
    def check(self, kind, told):
        for text, value in told.items():
            got = convert(kind, text)
            self.assertEqual((got, got.__class__), (value, value.__class__), (kind, text))

    def check_unfit(self, kind, cause, texts):
        for text in texts:
            self.assertEqual(caught(convert, kind, text), ("Unfit", cause), (kind, text))

    def test_int(self):
        wide = ("int", -NINES, NINES)
        self.check(INT, {"0": 0, "-0": 0, "007": 7, "-50": -50, "150": 150, "-0007": -7, "0" * 18: 0,
                         "-" + "0" * 16 + "42": -42})
        self.check(wide, {"9" * 18: NINES, "-" + "9" * 18: -NINES, "0" * 17 + "1": 1})
        self.check_unfit(INT, "number", ("", "-", "--1", "+1", " 1", "1 ", "1\n", "\n", "1.0", "1.", ".", ".5", "1_0",
                                         "0x1", "a", "1a", "1-", "- 1", "-" * 30, "9" * 30 + "a", "1e3", ","))
        self.check_unfit(INT, "range", ("-51", "151", "0" * 19, "-" + "0" * 19, "0" * 18 + "1", "9" * 20000))
        self.check_unfit(wide, "range", ("0" * 19, "1" + "0" * 18, "-1" + "0" * 18, "0" * 18 + "9"))
        self.check_unfit(("int", 5, 6), "range", ("4", "7", "0", "-5"))

    def test_decimal(self):
        self.check(PRICE, {"1.5": 150, "1.50": 150, "1": 100, "0": 0, "-0": 0, "-0.00": 0, "007.10": 710, "0.05": 5,
                           "-0.05": -5, "-99.99": -9999, "999.99": 99999, "0" * 15 + "1.25": 125,
                           "0" * 16 + ".01": 1, "0" * 17 + "1": 100})
        self.check_unfit(PRICE, "number", (
            "", "-", ".", "-.", ".5", "-.5", "5.", "1..5", "1.5.", "1.2.3", "1.-5", "+1.5", " 1.5", "1.5 ", "1,5",
            "1.5a", "a.5", "1.a", "1.5\n", "1. 5", "1.555x", "0" * 30 + ".", "." + "0" * 30))
        self.check_unfit(PRICE, "places", ("1.500", "1.555", "0.000", "9" * 30 + ".123", "-0.001", "1." + "0" * 9999))
        self.check_unfit(PRICE, "range", ("-100", "-100.00", "1000", "1000.00", "0" * 17 + ".01", "0" * 18 + ".1",
                                          "0" * 19, "9" * 500, "-" + "0" * 17 + ".55"))

    def test_decimal_at_its_bounds(self):
        deep = ("decimal", -NINES, NINES, 9)
        self.check(deep, {"9" * 9 + "." + "9" * 9: NINES, "0.000000001": 1, "-0.000000001": -1,
                          "1.000000000": 10 ** 9, "999999999": 999999999 * 10 ** 9})
        self.check_unfit(deep, "range", ("0" * 10 + "." + "0" * 9, "1000000000", "-1000000000", "9" * 18))
        self.check_unfit(deep, "places", ("0.0000000000", "1" * 18 + "." + "0" * 10))
        one = ("decimal", 15, 15, 1)
        self.check(one, {"1.5": 15, "01.5": 15})
        self.check_unfit(one, "range", ("1.4", "1.6", "1", "2", "-1.5", "15"))
        self.check_unfit(one, "places", ("1.50", "1.40"))

    def test_text(self):
        self.check(TEXT, {"": "", "a": "a", "abc": "abc", "\n": "\n", " a ": " a "})
        self.check_unfit(TEXT, "length", ("abcd", "    ", "a" * 20000))
        self.check(("text", 1000), {"a" * 1000: "a" * 1000})
        self.check_unfit(("text", 1000), "length", ("a" * 1001,))

    def test_choice(self):
        self.check(CHOICE, {"red": "red", "Red": "Red", "a\nb": "a\nb", "yes": "yes"})
        self.check_unfit(CHOICE, "choice", ("", "RED", "re", "redd", " red", "red ", "e"))

    def test_truth(self):
        self.check(TRUTH, {"yes": True, "no": False})
        self.check_unfit(TRUTH, "truth", ("", "Yes", "NO", "true", "1", "0", "y", " yes", "no\n", "yesno", "e", "s"))

    def test_date(self):
        self.check(DATE, {"0001-01-01": 1, "0001-01-31": 31, "0001-02-01": 32, "0001-12-31": 365, "0002-01-01": 366,
                          "9999-12-31": 3652059, "0004-02-29": 1155, "2000-02-29": 730179, "1600-02-29": 584082,
                          "2024-12-31": 739251})
        self.check_unfit(DATE, "date", (
            "", "2000-1-01", "2000-01-1", "200-01-01", "02000-01-01", "2000-01-001", "2000/01/01", "20000101",
            "2000-0101-", "0000-01-01", "0000-12-31", "2000-00-01", "2000-13-01", "2000-01-00", "2000-01-32",
            "2000-04-31", "2000-06-31", "2000-09-31", "2000-11-31", "2000-02-30", "2001-02-29", "1900-02-29",
            "2100-02-29", "0001-02-29", "0100-02-29", "-001-01-01", "+001-01-01", "2000--1-01", "2000-+1-01",
            "2000-01--1", " 000-01-01", "2000- 1-01", "2000-01- 1",
            "2000-01-1 ", "2000-01-01 ", " 2000-01-01", "2000-01-01\n", "2000-a1-01", "2000-01-0a", "20a0-01-01",
            "2000 01 01", "2000-01.01", "2000.01-01", "12345678-9", "1-23456789", "0000-00-00", "2000-99-99"))

    def test_dates_of_all_months(self):
        for year in (1, 3, 4, 99, 100, 101, 200, 300, 399, 400, 1582, 1899, 1900, 1999, 2000, 2023, 2024, 9996, 9999):
            for month in range(14):
                for day in range(34):
                    text = f"{year:04d}-{month:02d}-{day:02d}"
                    try:
                        number = datetime.date(year, month, day).toordinal()
                    except ValueError:
                        self.check_unfit(DATE, "date", (text,))
                    else:
                        self.check(DATE, {text: number})

    def test_wrong_arguments(self):
        for value in ODDITIES:
            for kind in KINDS:
                if not isinstance(value, str):
                    self.assertEqual(caught(convert, kind, value), ("BadText", None))
        for kind in KINDS:
            self.assertEqual(caught(convert, kind, "\u00e9"), ("BadText", 0))
            self.assertEqual(caught(convert, kind, "ab\u0025\u0025"), ("BadText", 2))
            self.assertEqual(caught(convert, kind, "a" * 20001), ("BadText", 20000))
            self.assertEqual(caught(convert, kind, "a" * 20000 + "\t"), ("BadText", 20000))
            self.assertEqual(caught(convert, kind, "a" * 20500 + "\t"), ("BadText", 20000))
            self.assertEqual(caught(convert, kind, "a" * 19999 + "\t" + "a" * 9), ("BadText", 19999))
        self.assertEqual(caught(convert, ("int", 1, 0), None), ("BadKind", ("int", 1, 0)))
        self.assertEqual(caught(convert, [1], "\t"), ("BadKind", [1]))
        self.assertEqual(caught(show, ["date"], ["x"]), ("BadKind", ["date"]))
        self.assertEqual(caught(is_value, ["date"], ["x"]), ("BadKind", ["date"]))

    def test_every_character(self):
        kind = ("text", 1)
        for code in range(300):
            sign = chr(code)
            if code == 10 or 32 <= code <= 126 and code != 37:
                self.check(kind, {sign: sign})
            else:
                self.assertEqual(caught(convert, kind, sign), ("BadText", 0))
                self.assertEqual(caught(convert, kind, "a\n" + sign + "b"), ("BadText", 2))
        for sign in ("\u2028", "\u0661", "\u00b2", "\ud800", "\U0001f600"):
            self.assertEqual(caught(convert, INT, "1" + sign), ("BadText", 1))

    def test_names_of_parameters(self):
        self.assertEqual(convert(text="7", kind=INT), 7)
        self.assertEqual(show(value=7, kind=INT), "7")
        self.assertIs(is_value(value=7, kind=INT), True)
        self.assertIs(is_kind(value=INT), True)


class ShowTest(unittest.TestCase):
    def check(self, kind, told):
        for value, text in told.items():
            self.assertEqual(show(kind, value), text)
            got = convert(kind, text)
            self.assertEqual((got, got.__class__), (value, value.__class__))

    def test_numbers(self):
        self.check(INT, {0: "0", 7: "7", -7: "-7", 100: "100", -50: "-50"})
        self.check(("int", -NINES, NINES), {NINES: "9" * 18, -NINES: "-" + "9" * 18, 10 ** 17: "1" + "0" * 17})
        self.check(PRICE, {150: "1.5", 155: "1.55", 100: "1", 1000: "10", 5: "0.05", 50: "0.5", -5: "-0.05",
                           -50: "-0.5", 0: "0", -100: "-1", -1050: "-10.5", 99999: "999.99"})
        self.check(("decimal", -NINES, NINES, 9), {
            NINES: "9" * 9 + "." + "9" * 9, 1: "0.000000001", -10 ** 9: "-1", 10 ** 17: "100000000",
            10 ** 8: "0.1", -123: "-0.000000123"})
        self.check(("decimal", -99, 99, 1), {10: "1", 15: "1.5", -1: "-0.1", 0: "0"})

    def test_others(self):
        self.check(TEXT, {"": "", "abc": "abc", "\n": "\n"})
        self.check(CHOICE, {"red": "red", "a\nb": "a\nb"})
        self.check(TRUTH, {True: "yes", False: "no"})
        self.check(DATE, {1: "0001-01-01", 32: "0001-02-01", 1155: "0004-02-29", 3652059: "9999-12-31"})

    def test_dates(self):
        days = list(range(1, 3652060, 97)) + list(range(1, 1500)) + list(range(3650000, 3652060))
        days += [datetime.date(year, month, 1).toordinal() - before
                 for year in (4, 5, 100, 101, 400, 401, 1900, 2000, 2001, 9999) for month in range(1, 13)
                 for before in (0, 1)]
        for number in days:
            text = datetime.date.fromordinal(number).isoformat()
            self.assertEqual(show(DATE, number), text)
            self.assertEqual(convert(DATE, text), number)

    def shortest(self, kind, texts):
        """Each value's texts among these: the shown one is alone the shortest."""
        found = {}
        for text in texts:
            try:
                value = convert(kind, text)
            except ValueError:
                continue
            found.setdefault(value, []).append(text)
        for value, told in found.items():
            short = min(map(len, told))
            self.assertEqual([text for text in told if len(text) == short], [show(kind, value)])
        return len(found)

    def test_the_shown_text_is_the_shortest(self):
        texts = list(every_text("-.015", 6))
        self.assertGreater(self.shortest(("int", -555, 999), texts), 50)
        self.assertGreater(self.shortest(("decimal", -2000, 50000, 2), texts), 150)
        self.assertGreater(self.shortest(("decimal", -2000, 50000, 1), texts), 150)
        self.assertGreater(self.shortest(("decimal", -NINES, NINES, 9), texts), 150)


if __name__ == "__main__":
    unittest.main()
