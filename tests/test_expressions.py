"""Expressions and conditions: 5.1 to 5.4, and the interface's section on them."""

import random
import unittest

from bulkload.expressions import evaluate, holds, is_condition, is_expression, used
from bulkload.values import is_kind
from tests.helpers import OBJECTS, ODD, ODDITIES, Equal, caught, nested, shown, spoiled

NAMES = ("a", "b", "c")
FIELD = ("field", "a")
NONE = ("none",)
ALWAYS = ("always",)
NEVER = ("not", ALWAYS)
LONG = "x" * 20001
INT = ("int", 0, 99)
# One right value for each word, with expressions and conditions inside of each other.
EXPRESSIONS = (
    FIELD, ("field", "c"), ("const", ""), ("const", "x\n~"), NONE, ("number",), ("trim", FIELD), ("upper", NONE),
    ("lower", ("number",)), ("cut", FIELD, 0, 20000), ("cut", ("const", "x"), 20000, 0), ("join", FIELD),
    ("join", FIELD, NONE, ("const", "y")), ("map", FIELD, (("x", "y"),)), ("map", NONE, (("", "x"), ("x", "x"))),
    ("first", FIELD), ("first", NONE, FIELD, ("number",)), ("when", ALWAYS, FIELD, NONE),
    ("when", ("is", ("trim", FIELD), "x"), ("const", "y"), ("when", NEVER, NONE, ("join", FIELD, FIELD))),
)
CONDITIONS = (
    ALWAYS, ("is", FIELD, "x"), ("is", ("const", ""), ""), ("starts", ("field", "b"), "x"), ("missing", FIELD),
    ("fits", INT, FIELD), ("fits", ("choice", ("x", "y")), NONE), ("fits", ("date",), ("number",)), NEVER,
    ("both", ALWAYS, ("missing", NONE)), ("either", ("fits", ("truth",), FIELD), NEVER),
    ("not", ("both", ("is", ("first", FIELD, NONE), "x"), ("starts", ("when", ALWAYS, FIELD, FIELD), ""))),
)
WORDS = ("field", "const", "none", "number", "trim", "upper", "lower", "cut", "join", "map", "first", "when",
         "always", "is", "starts", "missing", "fits", "not", "both", "either")
NEWS = ODDITIES + OBJECTS + WORDS + (
    "A", "d", LONG, LONG[1:], 20000, 20001, 2, 10 ** 30, b"x", FIELD, ALWAYS, NONE, INT, ("x",), ("x", "y"),
    (("x", "y"),), (("x", "y"), ("x", "z")), ("field",), ("field", "d"), ("always", "x"),
)


def is_text(value):
    """2.4, read character by character."""
    return isinstance(value, str) and len(value) <= 20000 and all(
        sign == "\n" or " " <= sign <= "~" and sign != "\u0025" for sign in value)


def is_count(value):
    return type(value) is int and 0 <= value <= 20000


def right_and_inner(word, rest, names):
    """Whether what stands behind a word is right as far as it is no part, the roles of the parts, and these."""
    if word == "field":
        return (len(rest) == 1 and isinstance(rest[0], str) and rest[0] in names, "", ())
    if word == "const":
        return (len(rest) == 1 and is_text(rest[0]), "", ())
    if word == "cut":
        return (len(rest) == 3 and is_count(rest[1]) and is_count(rest[2]), "e", rest[:1])
    if word == "map":
        return (len(rest) == 2 and are_pairs(rest[1]), "e", rest[:1])
    if word in ("join", "first"):
        return (1 <= len(rest) <= 8, "e" * len(rest), rest)
    if word in ("is", "starts"):
        return (len(rest) == 2 and is_text(rest[1]), "e", rest[:1])
    if word == "fits":
        return (len(rest) == 2 and is_kind(rest[0]), "e", rest[1:])
    roles = {"trim": "e", "upper": "e", "lower": "e", "missing": "e", "when": "cee", "not": "c", "both": "cc",
             "either": "cc", "always": "", "none": "", "number": ""}[word]
    return (len(rest) == len(roles), roles, rest)


def told(value, role, names):
    """How many parts, and how many inside one another, an expression ("e") or condition ("c") has, or None."""
    words = WORDS[:12] if role == "e" else WORDS[12:]
    if not isinstance(value, tuple) or not value or not isinstance(value[0], str) or value[0] not in words:
        return None
    right, roles, inner = right_and_inner(value[0], value[1:], names)
    found = [told(part, role, names) for role, part in zip(roles, inner)] if right else [None]
    if None in found:
        return None
    return (1 + sum(many for many, _ in found), 1 + max([levels for _, levels in found], default=0))


def are_pairs(value):
    if not isinstance(value, tuple) or not 1 <= len(value) <= 20:
        return False
    for pair in value:
        if not isinstance(pair, tuple) or len(pair) != 2 or not is_text(pair[0]) or not is_text(pair[1]):
            return False
    return len({pair[0] for pair in value}) == len(value)


def is_right(value, role, names):
    found = told(value, role, names)
    return found is not None and found[0] <= 100 and found[1] <= 20


def deep(word, levels):
    """An expression with so many levels and parts."""
    value = FIELD
    for _ in range(levels - 1):
        value = (word, value)
    return value


def wide(parts):
    """An expression with so many parts, few inside one another: from 1 to 1 + 8 * 9."""
    below = []
    left = parts - 1
    while left > 0:
        many = min(left - 1, 8)
        below.append(("first",) + (FIELD,) * many if many else FIELD)
        left -= many + 1
    return ("join",) + tuple(below) if below else FIELD


class FormTest(unittest.TestCase):
    def agree(self, value):
        """What the program says of a value is what the words of 5 say."""
        is_one, is_other = is_right(value, "e", NAMES), is_right(value, "c", NAMES)
        self.assertIs(is_expression(value, NAMES), is_one, shown(value))
        self.assertIs(is_condition(value, NAMES), is_other, shown(value))
        if not is_one:
            self.assertEqual(caught(evaluate, value, NAMES, None, None), ("BadExpression",))
        if not is_other:
            self.assertEqual(caught(holds, value, NAMES, None, None), ("BadExpression",))

    def test_right_ones(self):
        for value in EXPRESSIONS:
            self.assertEqual((is_expression(value, NAMES), is_condition(value, NAMES)), (True, False), value)
        for value in CONDITIONS:
            self.assertEqual((is_expression(value, NAMES), is_condition(value, NAMES)), (False, True), value)
        self.assertIs(is_expression(names=NAMES, value=FIELD), True)
        self.assertIs(is_condition(names=NAMES, value=ALWAYS), True)

    def test_spoiled_at_each_place(self):
        for value in EXPRESSIONS + CONDITIONS:
            for other in spoiled(value, NEWS):
                self.agree(other)

    def test_odd_values(self):
        for value in NEWS + (nested(lambda inner: ("trim",) + inner, 59), nested(lambda inner: ("not",) + inner, 59)):
            self.agree(value)
        for value in ODD + OBJECTS + ("field", "always", "", LONG):
            self.assertEqual((is_expression(value, NAMES), is_condition(value, NAMES)), (False, False))

    def test_each_word_with_too_few_and_too_many(self):
        for value in EXPRESSIONS + CONDITIONS:
            many = value[0] in ("join", "first")
            for other in (value[:1] if len(value) > 1 else (), value + (FIELD,) * 8, value + (value,) * 8,
                          value if many else value + value[-1:], value if many else value + (None,)):
                self.assertFalse(other != value and (is_expression(other, NAMES) or is_condition(other, NAMES)), other)
                self.agree(other)

    def test_counts_of_join_and_first(self):
        for word in ("join", "first"):
            for many in range(12):
                self.assertIs(is_expression((word,) + (FIELD,) * many, NAMES), 1 <= many <= 8)

    def test_cut(self):
        for count in (0, 1, 20000):
            self.assertTrue(is_expression(("cut", FIELD, count, 5), NAMES))
            self.assertTrue(is_expression(("cut", FIELD, 5, count), NAMES))
        for count in (-1, 20001, 10 ** 30, True, False, None, "1", (1,), [1], b"1"):
            self.assertFalse(is_expression(("cut", FIELD, count, 5), NAMES))
            self.assertFalse(is_expression(("cut", FIELD, 5, count), NAMES))

    def test_pairs(self):
        pairs = tuple((str(number), "x") for number in range(21))
        for many in range(22):
            self.assertIs(is_expression(("map", FIELD, pairs[:many]), NAMES), 1 <= many <= 20)
        self.assertFalse(is_expression(("map", FIELD, (("x", "y"), ("x", "y"))), NAMES))
        self.assertFalse(is_expression(("map", FIELD, (("x", "y"), ("z", "y"), ("x", "z"))), NAMES))
        self.assertTrue(is_expression(("map", FIELD, (("x", "y"), ("y", "y"), ("", "x"))), NAMES))
        for pairs in ((["x", "y"],), [("x", "y")], {"x": "y"}, (("x", "y", "z"),), (("x",),), ("xy",), ((1, "y"),),
                      (("x", None),), (("x", "\t"),), ((["x"], "y"),), ((("x",), "y"), ((), "y")), (Equal(),)):
            self.assertFalse(is_expression(("map", FIELD, pairs), NAMES))

    def test_texts(self):
        for text in ("", "\n", " ~", LONG[1:]):
            self.assertTrue(is_expression(("const", text), NAMES))
            self.assertTrue(is_expression(("map", FIELD, ((text, text),)), NAMES))
            self.assertTrue(is_condition(("is", FIELD, text), NAMES))
            self.assertTrue(is_condition(("starts", FIELD, text), NAMES))
        for text in (LONG, "\t", "\u0025", "\u00e9", "\x7f", None, 1, b"a", ["a"], ("a",)):
            self.assertFalse(is_expression(("const", text), NAMES))
            self.assertFalse(is_expression(("map", FIELD, ((text, ""),)), NAMES))
            self.assertFalse(is_expression(("map", FIELD, (("", text),)), NAMES))
            self.assertFalse(is_condition(("is", FIELD, text), NAMES))
            self.assertFalse(is_condition(("starts", FIELD, text), NAMES))

    def test_kinds(self):
        for kind in (INT, ("decimal", -5, 5, 9), ("text", 1000), ("choice", ("a",)), ("truth",), ("date",)):
            self.assertTrue(is_condition(("fits", kind, FIELD), NAMES))
        for kind in ((), ("int",), ("int", 5, 4), ["int", 0, 9], ("text", 0), ("choice", ()), ("choice", ["a"]),
                     ("truth", True), None, "date", FIELD):
            self.assertFalse(is_condition(("fits", kind, FIELD), NAMES))
        self.assertFalse(is_condition(("fits", FIELD, INT), NAMES))

    def test_names(self):
        for title in ("d", "A", "", "a" * 21, "aa", None, 0, ["a"], ("a",), NAMES, b"a", Equal()):
            self.assertFalse(is_expression(("field", title), NAMES))
            self.assertFalse(is_condition(("missing", ("field", title)), NAMES))
        for title in NAMES:
            self.assertTrue(is_expression(("field", title), NAMES))
            self.assertFalse(is_expression(("field", title), ()))
            self.assertFalse(is_expression(("trim", ("first", NONE, ("field", title))), ("x", title + "a")))
        self.assertTrue(is_expression(NONE, ()))

    def test_levels(self):
        for word in ("trim", "upper", "lower", "join", "first"):
            self.assertTrue(is_expression(deep(word, 20), NAMES))
            self.assertFalse(is_expression(deep(word, 21), NAMES))
            self.assertTrue(is_condition(("missing", deep(word, 19)), NAMES))
            self.assertFalse(is_condition(("missing", deep(word, 20)), NAMES))
        condition = ALWAYS
        for _ in range(19):
            condition = ("not", condition)
        self.assertTrue(is_condition(condition, NAMES))
        self.assertFalse(is_condition(("not", condition), NAMES))
        self.assertFalse(is_condition(("either", ALWAYS, condition), NAMES))
        self.assertFalse(is_expression(("when", condition, FIELD, FIELD), NAMES))
        self.assertTrue(is_expression(("when", condition[1], FIELD, FIELD), NAMES))
        self.assertTrue(is_expression(("when", ALWAYS, FIELD, deep("cut", 1)), NAMES))
        self.assertFalse(is_expression(("when", ALWAYS, FIELD, deep("trim", 20)), NAMES))

    def test_parts(self):
        half = wide(50)
        self.assertTrue(is_expression(wide(73), NAMES))
        self.assertTrue(is_expression(("join", half, wide(49)), NAMES))
        self.assertFalse(is_expression(("join", half, half), NAMES))
        self.assertTrue(is_condition(("both", ("missing", half), ("missing", wide(47))), NAMES))
        self.assertFalse(is_condition(("both", ("missing", half), ("missing", wide(48))), NAMES))
        for parts in range(1, 74):
            self.assertEqual(told(wide(parts), "e", NAMES)[0], parts)
            self.assertTrue(is_expression(("first", wide(parts), *(FIELD,) * 7), NAMES))
        # Texts, pairs and kinds are no parts.
        pairs = tuple((str(number), "x") for number in range(20))
        full = ("first", wide(73), ("join", *(FIELD,) * 8), ("join", *(FIELD,) * 8), *(("map", FIELD, pairs),) * 4)
        self.assertEqual(told(full, "e", NAMES)[0], 100)
        self.assertTrue(is_expression(full, NAMES))
        self.assertFalse(is_expression(full + (FIELD,), NAMES))

    def test_shared_parts_count_as_often_as_they_stand_there(self):
        value = FIELD
        for levels in range(2, 60):
            value = ("join", value, value)
            self.assertIs(is_expression(value, NAMES), levels <= 6)
            self.assertIs(is_condition(("missing", value), NAMES), levels <= 6)
        condition = ALWAYS
        for levels in range(2, 60):
            condition = ("both", condition, condition)
            self.assertIs(is_condition(condition, NAMES), levels <= 6)
            if levels > 6:
                self.assertEqual(caught(holds, condition, NAMES, (), 1), ("BadExpression",))
                self.assertEqual(caught(used, condition), ("BadExpression",))

    def test_random_ones(self):
        source = random.Random(5)
        for _ in range(2000):
            value = made(source, source.choice("ec"), source.randint(1, 6))
            self.agree(value)
            places = list(spoiled(value, NEWS[::9]))
            self.agree(source.choice(places))


def made(source, role, levels):
    """An expression or condition with at most so many levels."""
    value = source.choice(EXPRESSIONS if role == "e" else CONDITIONS)
    if levels == 1:
        return value
    found = [value[0]]
    for inner in value[1:]:
        if is_right(inner, "e", NAMES):
            inner = made(source, "e", levels - 1)
        elif is_right(inner, "c", NAMES):
            inner = made(source, "c", levels - 1)
        found.append(inner)
    return tuple(found)


class EvaluateTest(unittest.TestCase):
    def gives(self, expression, text, fields=("x", None, ""), number=7):
        before = repr(expression)
        self.assertEqual(evaluate(expression, NAMES, fields, number), text, expression)
        self.assertEqual(repr(expression), before)

    def test_leaves(self):
        self.gives(("field", "a"), "x")
        self.gives(("field", "b"), None)
        self.gives(("field", "c"), "")
        self.gives(("const", ""), "")
        self.gives(("const", " x\n"), " x\n")
        self.gives(NONE, None)
        for number in (0, 1, 10, 19999, 20000):
            self.gives(("number",), str(number), number=number)

    def test_arguments_by_name(self):
        self.assertEqual(evaluate(number=1, fields=("x",), names=("k",), expression=("field", "k")), "x")
        self.assertIs(holds(number=1, fields=("x",), names=("k",), condition=("is", ("field", "k"), "x")), True)

    def test_missing_through_each_word(self):
        for inner in (NONE, ("field", "b")):
            for expression in (("trim", inner), ("upper", inner), ("lower", inner), ("cut", inner, 0, 5),
                               ("join", inner), ("join", ("const", "x"), inner), ("join", inner, ("const", "x")),
                               ("map", inner, (("", "x"),)), ("first", inner), ("first", inner, NONE),
                               ("when", ALWAYS, inner, FIELD), ("when", NEVER, FIELD, inner)):
                self.gives(expression, None)

    def test_trim(self):
        for text, trimmed in (("  x  ", "x"), ("x", "x"), (" ", ""), ("", ""), (" x y ", "x y"), ("\n", "\n"),
                              (" \n x \n ", "\n x \n"), ("x\n ", "x\n")):
            self.gives(("trim", ("const", text)), trimmed)

    def test_letters(self):
        signs = "".join(chr(code) for code in range(32, 127) if code != 37) + "\n"
        upper = "".join(chr(ord(sign) - 32) if "a" <= sign <= "z" else sign for sign in signs)
        lower = "".join(chr(ord(sign) + 32) if "A" <= sign <= "Z" else sign for sign in signs)
        self.gives(("upper", ("const", signs)), upper)
        self.gives(("lower", ("const", signs)), lower)
        self.gives(("upper", ("const", "aZ-_09 b")), "AZ-_09 B")

    def test_cut(self):
        text = ("const", "abcde")
        for start in (0, 1, 3, 4, 5, 6, 100, 20000):
            for count in (0, 1, 2, 5, 6, 20000):
                expected = "".join("abcde"[index] for index in range(5) if start <= index < start + count)
                self.gives(("cut", text, start, count), expected)
        self.gives(("cut", ("const", LONG[1:]), 19999, 20000), "x")
        self.gives(("cut", ("const", LONG[1:]), 20000, 20000), "")

    def test_join(self):
        self.gives(("join", FIELD), "x")
        self.gives(("join", FIELD, ("number",), ("const", ""), FIELD), "x7x")
        long = ("const", "a" * 19999)
        self.gives(("join", long, ("const", "bc")), "a" * 19999 + "b")
        self.gives(("join", ("const", "b"), long), "b" + "a" * 19999)
        self.gives(("join", long, long, NONE), None)
        self.gives(("join", *(long,) * 8), "a" * 20000)
        self.gives(("join", ("join", long, long), ("const", "b")), "a" * 20000)

    def test_map(self):
        pairs = (("x", "y"), ("y", ""), ("", "z"))
        self.gives(("map", FIELD, pairs), "y")
        self.gives(("map", ("const", "y"), pairs), "")
        self.gives(("map", ("field", "c"), pairs), "z")
        self.gives(("map", ("const", "xy"), pairs), None)
        self.gives(("map", ("const", "X"), pairs), None)
        self.gives(("map", ("field", "b"), pairs), None)

    def test_first(self):
        self.gives(("first", FIELD, ("const", "y")), "x")
        self.gives(("first", NONE, ("field", "b"), ("const", "y"), FIELD), "y")
        self.gives(("first", ("field", "c"), FIELD), "")
        self.gives(("first", *(NONE,) * 7, FIELD), "x")
        self.gives(("first", *(NONE,) * 8), None)

    def test_when(self):
        self.gives(("when", ALWAYS, FIELD, NONE), "x")
        self.gives(("when", NEVER, FIELD, ("number",)), "7")
        self.gives(("when", ("is", FIELD, "x"), NONE, FIELD), None)
        self.gives(("when", ("missing", FIELD), NONE, ("when", ("missing", ("field", "b")), FIELD, NONE)), "x")

    def test_what_does_not_stand_in_it_means_nothing(self):
        """5.4."""
        source = random.Random(7)
        for _ in range(300):
            value = made(source, "e", 4)
            if not is_expression(value, NAMES):
                continue
            fields = tuple(source.choice((None, "", "x", "y ", "12", "Ab")) for _ in NAMES)
            others = tuple(field if name in used(value) else source.choice((None, "z", "1"))
                           for name, field in zip(NAMES, fields))
            number = 3 if "('number',)" in repr(value) else 44
            self.assertEqual(evaluate(value, NAMES, fields, 3), evaluate(value, NAMES, others, number))


class HoldsTest(unittest.TestCase):
    def test(self, fields=("x", None, "")):
        told = {
            ALWAYS: True, NEVER: False, ("not", NEVER): True,
            ("is", FIELD, "x"): True, ("is", FIELD, "X"): False, ("is", FIELD, ""): False, ("is", FIELD, "xx"): False,
            ("is", ("field", "c"), ""): True, ("is", ("field", "b"), ""): False, ("is", NONE, "x"): False,
            ("not", ("is", NONE, "x")): True,
            ("starts", FIELD, "x"): True, ("starts", FIELD, ""): True, ("starts", FIELD, "xx"): False,
            ("starts", ("const", "abc"), "ab"): True, ("starts", ("const", "abc"), "bc"): False,
            ("starts", ("field", "c"), ""): True, ("starts", ("field", "b"), ""): False,
            ("missing", FIELD): False, ("missing", ("field", "b")): True, ("missing", ("field", "c")): False,
            ("missing", NONE): True, ("missing", ("map", FIELD, (("y", "y"),))): True,
        }
        for condition, held in told.items():
            self.assertIs(holds(condition, NAMES, fields, 1), held, condition)

    def test_fits(self):
        told = {
            INT: ("0", "99", "007", "-0"), ("decimal", -100, 100, 2): ("1", "0.5", "-1.00"),
            ("text", 3): ("", "abc", "\n"), ("choice", ("a", "b c")): ("a", "b c"), ("truth",): ("yes", "no"),
            ("date",): ("0001-01-01", "2024-02-29"),
        }
        wrong = {
            INT: ("", "100", "-1", "1.0", " 1", "0" * 19), ("decimal", -100, 100, 2): ("", "1.01", "0.500", "."),
            ("text", 3): ("abcd",), ("choice", ("a", "b c")): ("", "A", "b"), ("truth",): ("", "Yes", "true"),
            ("date",): ("", "2023-02-29", "0000-01-01"),
        }
        for kind in told:
            for text in told[kind]:
                self.assertIs(holds(("fits", kind, ("const", text)), NAMES, ("x", "", ""), 0), True, (kind, text))
            for text in wrong[kind]:
                self.assertIs(holds(("fits", kind, ("const", text)), NAMES, ("x", "", ""), 0), False, (kind, text))
            self.assertIs(holds(("fits", kind, NONE), NAMES, ("x", "", ""), 0), False)
        self.assertIs(holds(("fits", INT, ("number",)), NAMES, ("x", "", ""), 99), True)
        self.assertIs(holds(("fits", INT, ("number",)), NAMES, ("x", "", ""), 100), False)

    def test_both_and_either(self):
        for one in (ALWAYS, NEVER, ("is", NONE, "")):
            for other in (ALWAYS, NEVER, ("is", NONE, "")):
                first, second = one == ALWAYS, other == ALWAYS
                self.assertIs(holds(("both", one, other), (), (), 0), first and second)
                self.assertIs(holds(("either", one, other), (), (), 0), first or second)
                self.assertIs(holds(("not", ("both", one, other)), (), (), 0), not (first and second))


class ErrorsTest(unittest.TestCase):
    pairs = ((evaluate, FIELD), (holds, ("missing", FIELD)))

    def test_fields(self):
        for call, value in self.pairs:
            for fields in ODDITIES + OBJECTS + ((), ("x",), ("x", "y"), ("x",) * 4, ["x", "y", "z"], "xyz"):
                if not isinstance(fields, tuple) or len(fields) != 3:
                    self.assertEqual(caught(call, value, NAMES, fields, 1), ("BadFields", None))
                    self.assertEqual(caught(call, value, NAMES, fields, None), ("BadFields", None))
            for wrong in ODD + OBJECTS + ("\t", "\u0025", "\u00e9", LONG, ("x",)):
                if wrong is not None:
                    for index in range(3):
                        fields = ("x",) * index + (wrong,) * (3 - index)
                        self.assertEqual(caught(call, value, NAMES, fields, None), ("BadFields", index))
        self.assertEqual(evaluate(FIELD, NAMES, (LONG[1:], None, ""), 1), LONG[1:])
        self.assertIsNone(evaluate(NONE, (), (), 0))

    def test_numbers(self):
        for call, value in self.pairs:
            for number in (0, 1, 20000):
                self.assertIn(call(value, NAMES, ("x", None, ""), number), ("x", False))
            for number in ODDITIES + OBJECTS + (-1, 20001, True, False, "1", (1,), [1]):
                if type(number) is not int or not 0 <= number <= 20000:
                    self.assertEqual(caught(call, value, NAMES, ("x", None, ""), number), ("BadNumber",))

    def test_which_comes_first(self):
        for call, value in self.pairs:
            self.assertEqual(caught(call, None, NAMES, None, None), ("BadExpression",))
            self.assertEqual(caught(call, None, NAMES, (1, 1, 1), None), ("BadExpression",))
            self.assertEqual(caught(call, ("field", "d"), NAMES, ("x",) * 3, 1), ("BadExpression",))
            self.assertEqual(caught(call, value, NAMES, (1, 1), True), ("BadFields", None))
            self.assertEqual(caught(call, value, NAMES, ("x", 1, 2), True), ("BadFields", 1))
            self.assertEqual(caught(call, value, NAMES, ("x", None, "x"), True), ("BadNumber",))
        self.assertEqual(caught(evaluate, ALWAYS, NAMES, ("x",) * 3, 1), ("BadExpression",))
        self.assertEqual(caught(holds, FIELD, NAMES, ("x",) * 3, 1), ("BadExpression",))


class UsedTest(unittest.TestCase):
    def test(self):
        self.assertEqual(used(FIELD), ("a",))
        self.assertEqual(used(value=("missing", ("field", "zz9_"))), ("zz9_",))
        for value in (NONE, ("number",), ("const", "a"), ALWAYS, ("join", NONE), NEVER, ("is", NONE, "field")):
            self.assertEqual(used(value), ())
        value = ("join", ("field", "c"), ("field", "a"), ("field", "c"), ("trim", ("field", "b_1")), ("const", "d"))
        self.assertEqual(used(value), ("a", "b_1", "c"))
        self.assertEqual(used(("when", ("starts", ("field", "z"), "y"), ("field", "k"), ("field", "b"))),
                         ("b", "k", "z"))
        self.assertEqual(used(("either", ("fits", INT, ("field", "y")), ("not", ("is", ("field", "x"), "w")))),
                         ("x", "y"))
        self.assertEqual(used(("map", ("first", ("field", "q"), ("cut", ("field", "p"), 1, 2)), (("o", "n"),))),
                         ("p", "q"))

    def test_of_what_is_neither(self):
        for value in NEWS:
            if not is_right(value, "e", ("a", "b", "c", "d")) and not is_right(value, "c", NAMES):
                self.assertEqual(caught(used, value), ("BadExpression",), value)
        for title in ("A", "", "a" * 21, None, 1, ["a"], ("a",), Equal()):
            self.assertEqual(caught(used, ("field", title)), ("BadExpression",))
            self.assertEqual(caught(used, ("missing", ("field", title))), ("BadExpression",))
        self.assertEqual(caught(used, ("join", FIELD, ALWAYS)), ("BadExpression",))
        self.assertEqual(caught(used, ("not", FIELD)), ("BadExpression",))
        self.assertEqual(used(deep("trim", 20)), ("a",))
        self.assertEqual(caught(used, deep("trim", 21)), ("BadExpression",))


if __name__ == "__main__":
    unittest.main()
