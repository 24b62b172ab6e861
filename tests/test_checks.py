"""Conditions of checks: 6.3, and truth of the interface."""

import inspect
import itertools
import unittest

from bulkload import schemas
from bulkload.schemas import Column, Schema, Table, truth
from tests.helpers import OBJECTS, ODD, Equal, caught, nested, shown

KINDS = {"i": ("int", 0, 9), "j": ("int", -5, 50), "d": ("decimal", 0, 99, 2), "e": ("decimal", -9, 9, 2),
         "f": ("decimal", 0, 99, 1), "t": ("text", 5), "u": ("text", 9), "c": ("choice", ("x", "y")),
         "g": ("choice", ("y", "z")), "b": ("truth",), "h": ("truth",), "day": ("date",), "due": ("date",)}
COLUMNS = tuple(Column(title, kind, nullable=title != "i") for title, kind in KINDS.items()) + (
    Column("seq", ("int", 0, 9), default=("next", "q")),)
LEAF = ("missing", ("column", "j"))
TRUE, FALSE, UNKNOWN = ("missing", ("column", "no")), ("missing", ("column", "yes")), (
    "same", ("column", "no"), ("value", 1))
ROW = {"no": None, "yes": 1}


def is_check(condition):
    """Whether a table with such a check is right; a wrong one is refused for it."""
    try:
        told = caught(Schema, (Table("t", COLUMNS, ("i",), checks=(("c", LEAF), ("d", condition))),))
    except AssertionError:
        return True
    assert told == ("BadSchema", 0, "checks"), told
    return False


def column(title):
    return ("column", title)


def value(worth):
    return ("value", worth)


def doubled(levels):
    """A condition with 2 ** levels - 1 parts, as a small object."""
    condition = LEAF
    for _ in range(levels - 1):
        condition = ("both", condition, condition)
    return condition


class FormTest(unittest.TestCase):
    def test_words(self):
        for condition in (LEAF, ("not", LEAF), ("both", LEAF, LEAF), ("either", LEAF, ("not", LEAF)),
                          ("less", column("i"), column("j")), ("same", column("t"), value(""))):
            self.assertTrue(is_check(condition), condition)
        for condition in (("missing",), ("missing", column("i"), column("i")), ("not",), ("not", LEAF, LEAF),
                          ("both", LEAF), ("both", LEAF, LEAF, LEAF), ("either", LEAF), ("either", LEAF, LEAF, LEAF),
                          ("both",), ("either",), ("less", column("i")), ("same", column("i")), ("less",), ("same",),
                          ("less", column("i"), column("i"), column("i")), ("same", column("i"), value(1), value(1)),
                          ("missing", LEAF), ("not", column("i")), ("both", LEAF, column("b")), ("less", LEAF, LEAF),
                          ("column", "b"), ("value", True), ("always",), ("more", column("i"), column("j")),
                          ("Not", LEAF), ("", LEAF), (), ("is", ("field", "i"), "x"), ["not", LEAF], ("not", [LEAF])):
            self.assertFalse(is_check(condition), condition)

    def test_odd_values_at_each_place(self):
        for odd in ODD + OBJECTS + ("", "a" * 20001, ("column",), ("column", "zz"), ("column", "i", "i"), ("value",),
                                    ("value", 1, 1), ["column", "i"], {"column": "i"}):
            for condition in (odd, ("not", odd), ("both", LEAF, odd), ("both", odd, LEAF), ("either", LEAF, odd),
                              ("either", odd, odd), ("missing", odd), ("less", odd, column("i")),
                              ("less", column("i"), odd), ("same", value(1), odd), (odd, LEAF), (odd,),
                              ("not", ("not", ("not", odd))), ("missing", column(odd)), ("missing", (odd, "i")),
                              ("less", (odd, 1), column("i")), ("same", column("t"), ("value", [odd])),
                              ("less", column(odd), value(1)), ("same", column("i"), column(odd))):
                self.assertFalse(is_check(condition), shown(condition))
        self.assertFalse(is_check(nested(lambda inner: ("not",) + inner, 59)))

    def test_columns(self):
        for title in ("zz", "I", "", "seq", None, 0, True, ["i"], ("i",), b"i", Equal(), COLUMNS[0]):
            for condition in (("missing", column(title)), ("less", column(title), value(1)),
                              ("same", value(1), column(title)), ("less", column("i"), column(title)),
                              ("same", column(title), column("i")), ("not", ("missing", column(title)))):
                self.assertFalse(is_check(condition), condition)
        for title in KINDS:
            self.assertTrue(is_check(("missing", column(title))))
            self.assertTrue(is_check(("same", column(title), column(title))))
        self.assertFalse(is_check(("missing", value(1))))
        self.assertFalse(is_check(("missing", value(None))))

    def test_columns_that_are_alike(self):
        for one, other in itertools.product(KINDS, repeat=2):
            alike = KINDS[one][0] == KINDS[other][0] and "f" not in (one, other) or one == other
            for word in ("less", "same"):
                self.assertIs(is_check((word, column(one), column(other))), alike, (one, other))

    def test_values(self):
        right = {"i": (0, 9), "j": (-5, 50), "d": (0, 99), "t": ("", "abcde", "\n"), "c": ("x", "y"),
                 "b": (True, False), "day": (1, 3652059)}
        wrong = {"i": (-1, 10, True, "1"), "d": (100, False), "t": ("abcdef", 1, "\t"), "c": ("z", "", ("x",)),
                 "b": (0, 1, "yes"), "day": (0, 3652060, "0001-01-01")}
        for word in ("less", "same"):
            for title, worths in right.items():
                for worth in worths:
                    self.assertTrue(is_check((word, column(title), value(worth))))
                    self.assertTrue(is_check((word, value(worth), column(title))))
            for title, worths in wrong.items():
                for worth in worths + tuple(ODD[7:]) + (None,):
                    self.assertFalse(is_check((word, column(title), value(worth))), shown(worth))
                    self.assertFalse(is_check((word, value(worth), column(title))), shown(worth))
            self.assertFalse(is_check((word, value(1), value(1))))
            self.assertFalse(is_check((word, value(True), value(False))))

    def test_levels(self):
        for word in ("not", "both", "either"):
            condition = LEAF
            for levels in range(1, 25):
                self.assertIs(is_check(condition), levels <= 20, (word, levels))
                condition = ("not", condition) if word == "not" else (word, LEAF, condition)
        condition = ("less", column("i"), value(1))
        for levels in range(1, 25):
            self.assertIs(is_check(("not", condition)), levels <= 19)
            condition = ("not", condition)

    def test_parts(self):
        for levels in range(1, 60):
            self.assertIs(is_check(doubled(levels)), levels <= 6)
        # 63 and 31 parts; columns and values are none.
        most = ("both", ("less", column("i"), value(1)), ("not", ("not", ("both", doubled(6), doubled(5)))))
        self.assertTrue(is_check(("not", most)))
        self.assertFalse(is_check(("not", ("not", most))))
        self.assertFalse(is_check(("both", most, LEAF)))

    def test_titles_of_checks(self):
        for title in ODD + OBJECTS + ("", "C", "a" * 21, "c-"):
            checks = (("c", LEAF), (title, LEAF))
            self.assertEqual(caught(Schema, (Table("t", COLUMNS, ("i",), checks=checks),)), ("BadSchema", 0, "checks"))
        for checks in ((), (("c", LEAF),), (("c", LEAF), ("c", ("not", LEAF)), ("a" * 20, LEAF))):
            self.assertEqual(Schema((Table("t", COLUMNS, ("i",), checks=checks),)).titles, ("t",))
        for checks in (None, [("c", LEAF)], ("c", LEAF), (("c",),), (("c", LEAF, LEAF),), (["c", LEAF],), {"c": LEAF},
                       (LEAF,), ((LEAF, "c"),), "c", True, 0):
            self.assertEqual(caught(Schema, (Table("t", COLUMNS, ("i",), checks=checks),)), ("BadSchema", 0, "checks"))


class TruthTest(unittest.TestCase):
    def test_combinations(self):
        told = {TRUE: True, FALSE: False, UNKNOWN: None}
        for condition, expected in told.items():
            self.assertIs(truth(condition, ROW), expected)
            opposite = None if expected is None else not expected
            self.assertIs(truth(condition=("not", condition), row=ROW), opposite)
        table = {(True, True): (True, True), (True, False): (False, True), (True, None): (None, True),
                 (False, False): (False, False), (False, None): (False, None), (None, None): (None, None)}
        for one, other in itertools.product(told, repeat=2):
            truths = (told[one], told[other])
            both, either = table[truths] if truths in table else table[truths[::-1]]
            self.assertIs(truth(("both", one, other), ROW), both, truths)
            self.assertIs(truth(("either", one, other), ROW), either, truths)
            self.assertIs(truth(("not", ("both", ("not", one), ("not", other))), ROW), either, truths)

    def test_missing(self):
        for worth in (0, "", False, 1, "x", True):
            self.assertIs(truth(("missing", column("a")), {"a": worth, "b": None}), False)
        self.assertIs(truth(("missing", column("b")), {"a": 1, "b": None}), True)

    def test_less_and_same(self):
        pairs = ((0, 1), (-5, 3), ("", "a"), ("A", "a"), ("a", "ab"), ("10", "9"), ("x", "y"), (False, True),
                 (1, 3652059), (10 ** 17, 10 ** 17 + 1))
        for low, high in pairs:
            for one, other in ((low, high), (high, low), (low, low), (high, high)):
                row = {"a": one, "b": other}
                for first, second in ((column("a"), column("b")), (column("a"), value(other)),
                                      (value(one), column("b"))):
                    self.assertIs(truth(("less", first, second), row), one == low and other == high)
                    self.assertIs(truth(("same", first, second), row), one == other)

    def test_less_and_same_of_missing_values(self):
        for word in ("less", "same"):
            for row in ({"a": None, "b": 1}, {"a": 1, "b": None}, {"a": None, "b": None}):
                self.assertIs(truth((word, column("a"), column("b")), row), None)
            for worth in (0, "", False):
                self.assertIs(truth((word, column("a"), value(worth)), {"a": None}), None)
                self.assertIs(truth((word, value(worth), column("a")), {"a": None}), None)
            self.assertIs(truth((word, column("a"), column("a")), {"a": None}), None)

    def test_deep_ones(self):
        condition = UNKNOWN
        for _ in range(18):
            condition = ("not", condition)
        self.assertIs(truth(condition, ROW), None)
        self.assertIs(truth(("either", condition, TRUE), ROW), True)
        self.assertIs(truth(("both", condition, FALSE), ROW), False)

    def test_what_is_handed_in_stays(self):
        row = dict(ROW)
        truth(("both", TRUE, ("either", UNKNOWN, FALSE)), row)
        self.assertEqual(row, ROW)
        self.assertEqual(str(inspect.signature(schemas.truth)), "(condition, row)")


if __name__ == "__main__":
    unittest.main()
