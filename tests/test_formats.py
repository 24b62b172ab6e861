"""Formats and records: 4.1 to 4.5 and 4.8, and the formats themselves."""

import itertools
import unittest

from bulkload.formats import Delimited, Fixed, names_of, records
from tests.helpers import FIXED, FORMS, ODD, ODDITIES, Equal, caught, every_text

TITLES = tuple("t" + str(n) for n in range(31))
TWO = Delimited(names=("a", "b"))
ONE = Delimited(names=("a",))
WRONG_NAMES = ODD + (
    "a", ["a"], ("a", "a"), ("A",), ("1a",), ("_a",), ("",), ("a" * 21,), ("a b",), ("\u00e9",), ("a", None), ("a-",),
    ("a\n",), TITLES, (("a",),), ("a", b"b"), {"a": 1}, "abc",
)


class DelimitedTest(unittest.TestCase):
    def fields(self, form):
        return (form.mark, form.quote, form.null, form.names)

    def test_fields(self):
        self.assertEqual(self.fields(Delimited()), (",", '"', "", None))
        form = Delimited(names=("a", "b"), null="NA", quote="q", mark=" ")
        self.assertEqual(self.fields(form), (" ", "q", "NA", ("a", "b")))
        self.assertEqual(self.fields(Delimited(names=TITLES[:30]))[3], TITLES[:30])
        self.assertEqual(self.fields(Delimited(names=("a" * 20, "a_1", "z9_")))[3], ("a" * 20, "a_1", "z9_"))
        self.assertEqual(Delimited(null="x" * 20).null, "x" * 20)
        for sign in ("0", "z", "Z", " ", "~", "!", "-", "\\", "'"):
            self.assertEqual(self.fields(Delimited(mark=sign)), (sign, '"', "", None))
            self.assertEqual(self.fields(Delimited(quote=sign)), (",", sign, "", None))

    def test_only_by_name(self):
        with self.assertRaises(TypeError):
            Delimited(",")

    def test_wrong_signs(self):
        strings = ("", "\n", "ab", ",,", "\u00e9", "\u0025", "\t", "\r", "\x7f", "a" * 20001)
        for value in ODD + strings:
            self.assertEqual(caught(Delimited, mark=value), ("BadFormat", "mark"))
            self.assertEqual(caught(Delimited, quote=value), ("BadFormat", "quote"))
        self.assertEqual(caught(Delimited, mark='"'), ("BadFormat", "quote"))
        self.assertEqual(caught(Delimited, quote=","), ("BadFormat", "quote"))
        self.assertEqual(caught(Delimited, mark="x", quote="x"), ("BadFormat", "quote"))

    def test_wrong_null(self):
        strings = ("x" * 21, ",", '"', "\n", "a,b", 'a"', "a\n", "\u00e9", "\u0025", "a\t")
        for value in ODD + strings:
            self.assertEqual(caught(Delimited, null=value), ("BadFormat", "null"))
        self.assertEqual(caught(Delimited, mark="A", null="NA"), ("BadFormat", "null"))
        self.assertEqual(caught(Delimited, quote="N", null="NA"), ("BadFormat", "null"))
        self.assertEqual(Delimited(mark="A", quote="B", null='N,"').null, 'N,"')

    def test_wrong_names(self):
        for value in WRONG_NAMES:
            if value is not None and value != ("a",):
                self.assertEqual(caught(Delimited, names=value), ("BadFormat", "names"))
        self.assertEqual(caught(Delimited, names=Equal()), ("BadFormat", "names"))

    def test_the_first_wrong_setting(self):
        wrong = {"mark": "", "quote": [], "null": 1, "names": ()}
        order = list(wrong)
        for size in range(1, 5):
            for some in itertools.combinations(order, size):
                given = {name: wrong[name] for name in reversed(some)}
                self.assertEqual(caught(Delimited, **given), ("BadFormat", some[0]))
        self.assertEqual(caught(Delimited, mark="x", quote="x", null="x"), ("BadFormat", "quote"))
        self.assertEqual(caught(Delimited, null="a,", names=("a", "a")), ("BadFormat", "null"))

    def test_with_names(self):
        form = Delimited(mark=";", quote="'", null="-")
        other = form.with_names(("x", "y"))
        self.assertEqual(self.fields(form), (";", "'", "-", None))
        self.assertEqual(self.fields(other), (";", "'", "-", ("x", "y")))
        self.assertIsInstance(other, Delimited)
        third = other.with_names(names=("z",))
        self.assertEqual(self.fields(third), (";", "'", "-", ("z",)))
        self.assertEqual(self.fields(other), (";", "'", "-", ("x", "y")))
        for value in WRONG_NAMES:
            if value != ("a",) or isinstance(value, Equal):
                self.assertEqual(caught(other.with_names, value), ("BadFormat", "names"))
                self.assertEqual(caught(form.with_names, value), ("BadFormat", "names"))
        self.assertEqual(self.fields(form), (";", "'", "-", None))
        self.assertEqual(self.fields(other), (";", "'", "-", ("x", "y")))
        self.assertIn("with_names", vars(Delimited))


class FixedTest(unittest.TestCase):
    def test_fields(self):
        columns = (("a", 2, "left", "0"), ("b", 200, "right", " "), ("c", 1, "left", "z"))
        for form in (Fixed(columns), Fixed(columns=columns)):
            self.assertEqual((form.columns, form.names, form.width), (columns, ("a", "b", "c"), 203))
        many = tuple((title, 1, "left", "-") for title in TITLES[:30])
        self.assertEqual((Fixed(many).names, Fixed(many).width), (TITLES[:30], 30))

    def test_no_columns(self):
        right = ("a", 1, "left", " ")
        many = tuple((title, 1, "left", "-") for title in TITLES)
        for value in (None, (), [], [right], "abcd", many, {"a": right}, 1, True, Equal(), FIXED):
            self.assertEqual(caught(Fixed, value), ("BadFormat", None))

    def test_wrong_columns(self):
        right = ("a", 1, "left", " ")
        other = ("b", 1, "left", "0")
        wrong = [other[:3], other + (1,), list(other), "b1l ", *ODDITIES]
        strings = (("", "B", "1b", "_b", "b" * 21, "b-", "\u00e9", "b\n"), ("1", "", " "),
                   ("Left", "", "l", "middle", "both"), ("", "  ", "\n", "\u00e9", "\u0025", "\t"))
        for at in range(4):
            wrong += [other[:at] + (value,) + other[at + 1:] for value in ODD + strings[at]
                      if not (at == 1 and type(value) is int and value == 1)]
        wrong += [("b", width, "left", "0") for width in (0, 201, -1, 10 ** 4000)]
        Fixed((right, other))
        for column in wrong:
            self.assertEqual(caught(Fixed, (right, column)), ("BadFormat", 1), column)
            self.assertEqual(caught(Fixed, (column, right)), ("BadFormat", 0), column)
            self.assertEqual(caught(Fixed, (right, right, column)), ("BadFormat", 1), column)
            self.assertEqual(caught(Fixed, (right, column, right)), ("BadFormat", 1), column)
        self.assertEqual(caught(Fixed, (right, other, ("a", 2, "right", "0"))), ("BadFormat", 2))
        self.assertEqual(caught(Fixed, (right, right, other[:3])), ("BadFormat", 1))


class EqualTest(unittest.TestCase):
    def test_formats(self):
        column = ("a", 1, "left", " ")
        makers = (
            lambda: Delimited(), lambda: Delimited(mark=";"), lambda: Delimited(quote="'"), lambda: Delimited(null="-"),
            lambda: Delimited(names=("a",)), lambda: Delimited(names=("a", "b")), lambda: Delimited(names=("b", "a")),
            lambda: Fixed((column,)), lambda: Fixed((("b", 1, "left", " "),)), lambda: Fixed((("a", 2, "left", " "),)),
            lambda: Fixed((("a", 1, "right", " "),)), lambda: Fixed((("a", 1, "left", "0"),)),
            lambda: Fixed((column, ("b", 1, "left", " "))), lambda: Fixed((("b", 1, "left", " "), column)),
        )
        for at, one in enumerate(makers):
            for place, other in enumerate(makers):
                self.assertIs(one() == other(), at == place)
                self.assertIs(one() != other(), at != place)

    def test_other_objects(self):
        for form in FORMS:
            others = [value for value in ODD if not isinstance(value, (Equal, Delimited, Fixed))] + ["", form.names]
            for other in others + [form.__class__, (form,), [form]]:
                self.assertIs(form == other, False)
                self.assertIs(form != other, True)
                self.assertIs(other == form, False)
            self.assertIs(form == Equal(), False)

    def test_an_equal_format_with_names(self):
        self.assertEqual(Delimited(mark=";").with_names(("a",)), Delimited(names=("a",), mark=";"))
        self.assertEqual(Delimited(names=("b",)).with_names(("a",)), Delimited(names=("a",)))


def told(form, text):
    """The numbers, the lines, and the fields or the fault of the records; the rest is looked at here."""
    found = records(form, text)
    assert isinstance(found, list) and "".join(record[2] for record in found) == text
    for record in found:
        assert isinstance(record, tuple) and len(record) == 5 and (record[3] is None) != (record[4] is None)
    return [(number, line, fault if fields is None else fields) for number, line, _, fields, fault in found]


class DelimitedRecordsTest(unittest.TestCase):
    def test_records_and_lines(self):
        self.assertEqual(records(TWO, ""), [])
        self.assertEqual(records(TWO, "1,2"), [(1, 1, "1,2", ("1", "2"), None)])
        self.assertEqual(records(TWO, "1,2\n"), [(1, 1, "1,2\n", ("1", "2"), None)])
        self.assertEqual(records(TWO, "1,2\n3,4"), [(1, 1, "1,2\n", ("1", "2"), None), (2, 2, "3,4", ("3", "4"), None)])
        self.assertEqual(records(TWO, '1,"\n\n"\n3,4\n'),
                         [(1, 1, '1,"\n\n"\n', ("1", "\n\n"), None), (2, 4, "3,4\n", ("3", "4"), None)])
        self.assertEqual(records(form=TWO, text="\n"), [(1, 1, "\n", None, "fields")])

    def test_empty_lines(self):
        self.assertEqual(told(ONE, "\n\na\n\n"), [(1, 1, (None,)), (2, 2, (None,)), (3, 3, ("a",)), (4, 4, (None,))])
        self.assertEqual(told(Delimited(names=("a",), null="-"), "\n-\n"), [(1, 1, ("",)), (2, 2, (None,))])
        self.assertEqual(told(TWO, "\n1,2\n"), [(1, 1, "fields"), (2, 2, ("1", "2"))])

    def test_number_of_fields(self):
        self.assertEqual(told(TWO, "1\n1,2\n1,2,3\n,\n,,\n"), [
            (1, 1, "fields"), (2, 2, ("1", "2")), (3, 3, "fields"), (4, 4, (None, None)), (5, 5, "fields")])

    def parts(self, told_parts):
        for part, field in told_parts.items():
            self.assertEqual([record[3] for record in records(ONE, part + "\n")], [(field,)], part)
            self.assertEqual([record[3] for record in records(TWO, "x," + part)], [("x", field)], part)
            self.assertEqual([record[3] for record in records(TWO, part + ",x")], [(field, "x")], part)

    def test_right_parts(self):
        self.parts({
            '""': "", '"a"': "a", '"a,b"': "a,b", '"a\nb"': "a\nb", '""""': '"', '""""""': '""', '"a""b"': 'a"b',
            '"""a"': '"a', '"a"""': 'a"', '"""a"""': '"a"', '"a"",""b"': 'a","b', '"\n"': "\n", '" "': " ", '","': ",",
            " a ": " a ", "a": "a", "": None, '"a""""b"': 'a""b', '"a""b""c"': 'a"b"c',
        })

    def test_wrong_parts(self):
        closed = ('a"b"', '"a"b', '"a"b"c"', ' ""', '"" ', '"a" ', 'a""', '""a""', '"a"""b"c"', '""a', '"a""b"c""')
        for part in closed:
            self.assertEqual(told(ONE, part + "\n"), [(1, 1, "quote")], part)
            self.assertEqual(told(TWO, part + ",x\n1,2\n"), [(1, 1, "quote"), (2, 2, ("1", "2"))], part)
            self.assertEqual(told(TWO, "x,y,z," + part + "\n"), [(1, 1, "quote")], part)

    def test_left_open(self):
        for part in ('"', '"""', '"a', 'a"', '"a""', '"""a', 'a"b', '""a"'):
            self.assertEqual(told(ONE, part), [(1, 1, "quote")])
            self.assertEqual(told(ONE, part + "\n"), [(1, 1, "quote")])
            self.assertEqual(told(TWO, "1,2\nx," + part + "\n3,4\n\n"), [(1, 1, ("1", "2")), (2, 2, "quote")])

    def test_null_marks(self):
        form = Delimited(names=("a", "b"), null="NA")
        self.assertEqual(told(form, 'NA,"NA"\nna,\nNAN, NA\n"",NA'), [
            (1, 1, (None, "NA")), (2, 2, ("na", "")), (3, 3, ("NAN", " NA")), (4, 4, ("", None))])
        self.assertEqual(told(TWO, ',""\n " ",x\n'), [(1, 1, (None, "")), (2, 2, "quote")])

    def test_other_signs(self):
        letter = Delimited(mark="x", quote="q", null="n", names=("a", "b"))
        self.assertEqual(told(letter, 'qaxbqxn\nqaqqxqx1\n,",x"\nqx\n'), [
            (1, 1, ("axb", None)), (2, 2, ("aqx", "1")), (3, 3, (',",', '"')), (4, 4, "quote")])
        digit = Delimited(mark="0", quote="1", null="2", names=("a", "b"))
        self.assertEqual(told(digit, "1021203\n202\n1110111\n1021011\n"), [
            (1, 1, "quote"), (2, 2, (None, None)), (3, 3, "fields"), (4, 4, ("02", ""))])
        blank = Delimited(mark=" ", quote="~", null="-", names=("a", "b"))
        self.assertEqual(told(blank, "~a b~ -\n\n~~ ~-~\n  \n"), [
            (1, 1, ("a b", None)), (2, 2, "fields"), (3, 3, ("", "-")), (4, 4, "fields")])

    def test_results_belong_to_the_caller(self):
        found = records(TWO, "1,2\n")
        found.clear()
        self.assertEqual(len(records(TWO, "1,2\n")), 1)


def plain_records(form, text):
    """What 4.1 to 4.3 say, word by word, for a Delimited format with names."""
    def is_inside(at):
        return text[:at].count(form.quote) % 2 == 1

    def split(begin, end, sign):
        places = [at for at in range(begin, end) if text[at] == sign and not is_inside(at)]
        begins = [begin] + [at + 1 for at in places]
        return list(zip(begins, places + [end]))

    found = []
    for begin, end in split(0, len(text), "\n"):
        if begin == len(text):
            continue
        record = text[begin:end + 1]
        line = 1 + text[:begin].count("\n")
        parts = [text[one:other] for one, other in split(begin, end, form.mark)]
        if not all(is_plainly_right(part, form.quote) for part in parts):
            found.append((len(found) + 1, line, record, None, "quote"))
        elif len(parts) != len(form.names):
            found.append((len(found) + 1, line, record, None, "fields"))
        else:
            fields = tuple(plain_field(part, form) for part in parts)
            found.append((len(found) + 1, line, record, fields, None))
    return found


def is_plainly_right(part, quote):
    if quote not in part:
        return True
    if len(part) < 2 or part[0] != quote or part[-1] != quote:
        return False
    runs = [len(list(run)) for sign, run in itertools.groupby(part[1:-1]) if sign == quote]
    return all(run % 2 == 0 for run in runs)


def plain_field(part, form):
    if form.quote not in part:
        return None if part == form.null else part
    field, at = "", 1
    while at < len(part) - 1:
        field += part[at]
        at += 2 if part[at] == form.quote else 1
    return field


class EveryTextTest(unittest.TestCase):
    def test_every_short_text(self):
        odd = Delimited(mark="x", quote=",", null='"', names=("a",))
        forms = (ONE, TWO, Delimited(names=("a", "b"), null="x"), odd)
        for form in forms:
            for text in every_text('x,"\n', 6):
                self.assertEqual(records(form, text), plain_records(form, text), text)

    def test_longer_texts_of_quote_signs(self):
        for text in every_text('"\na', 8):
            self.assertEqual(records(ONE, text), plain_records(ONE, text), text)

    def test_texts_behind_one_another(self):
        """4.8: behind a line feed that ends a record the records go on."""
        for one in ("", "1,2\n", '1,"\n"\n\n', "x\n\n"):
            for other in ("", "3,4", '"\n",\n"', '\n\n5,6\n"a', "x,y\n"):
                before = records(TWO, one)
                more = [(number + len(before), line + one.count("\n"), text, fields, fault)
                        for number, line, text, fields, fault in records(TWO, other)]
                self.assertEqual(records(TWO, one + other), before + more)

    def test_long_texts(self):
        self.assertEqual(len(records(ONE, "\n" * 20000)), 20000)
        self.assertEqual(len(records(ONE, '"' * 20000)), 1)
        self.assertEqual(records(Delimited(names=("a", "b", "c")), "x" * 20000), [(1, 1, "x" * 20000, None, "fields")])


class HeaderTest(unittest.TestCase):
    form = Delimited()

    def test_names(self):
        text = "id,name\n1,x\n2\n"
        self.assertEqual(names_of(self.form, text), ("id", "name"))
        self.assertEqual(records(self.form, text), [
            (0, 1, "id,name\n", ("id", "name"), None), (1, 2, "1,x\n", ("1", "x"), None),
            (2, 3, "2\n", None, "fields")])
        self.assertEqual(names_of(form=self.form, text="a"), ("a",))
        self.assertEqual(records(self.form, "a"), [(0, 1, "a", ("a",), None)])
        self.assertEqual(records(self.form, '"a",b\n"\n",\n'), [
            (0, 1, '"a",b\n', ("a", "b"), None), (1, 2, '"\n",\n', ("\n", None), None)])
        self.assertEqual(names_of(self.form, ",".join(TITLES[:30])), TITLES[:30])
        self.assertEqual(names_of(Delimited(null="id"), '"id",b\n'), ("id", "b"))
        self.assertEqual(names_of(Delimited(mark="x", quote="q"), "axqbqxc"), ("a", "b", "c"))

    def test_names_that_are_given(self):
        for text in ("", "x", '"', "1,2,3\n"):
            self.assertEqual(names_of(TWO, text), ("a", "b"))
            self.assertEqual(names_of(FIXED, text), ("a", "b"))

    def check(self, cause, *texts):
        for text in texts:
            self.assertEqual(caught(records, self.form, text), ("BadHeader", cause), text)
            self.assertEqual(caught(names_of, self.form, text), ("BadHeader", cause), text)

    def test_refused(self):
        self.check("none", "")
        self.check("quote", '"', 'a,b"c"\n', 'a,"b\n1,2\n', '"a" ,b\n', 'a,"b')
        self.check("many", ",".join(TITLES), "," * 30, "," * 30 + "\n1\n")
        self.check("title", "\n", "\n\n", "a,", ",a\n", 'a,""\n', "a,B\n", "a,1\n", "a, b\n", '"a\n"\n', "a" * 21,
                   "a,_b\n", "a,b-c", "," * 29, '"a,b"\n')
        self.check("twice", "a,a\n", 'a,b,"a"\n1,2,3\n')

    def test_which_comes_first(self):
        many = ",".join(TITLES)
        self.check("quote", many + ',"', '"' + many, "A,a,a" + ',"x"y', ",,\"\"\"\"\"\n")
        self.check("many", many + ",t0", many + ",A", many + ',""', "," * 30)
        self.check("title", "a,a,A\n", "a,a,\n", ",".join(TITLES[:28]) + ",t1,")
        self.check("twice", ",".join(TITLES[:29]) + ",t1")

    def test_null_mark_in_a_header(self):
        form = Delimited(null="id")
        self.assertEqual(caught(names_of, form, "id,b\n"), ("BadHeader", "title"))
        self.assertEqual(caught(names_of, form, ",b\n"), ("BadHeader", "title"))


class FixedRecordsTest(unittest.TestCase):
    def test_records(self):
        self.assertEqual(records(FIXED, ""), [])
        self.assertEqual(records(FIXED, "07x  \n10 y "), [
            (1, 1, "07x  \n", ("7", "x"), None), (2, 2, "10 y ", ("10", " y"), None)])
        self.assertEqual(told(FIXED, "00   \n00x  \n70   \n"), [
            (1, 1, (None, None)), (2, 2, (None, "x")), (3, 3, ("70", None))])

    def test_width(self):
        self.assertEqual(told(FIXED, "\n1234\n12345\n123456\n12345"), [
            (1, 1, "width"), (2, 2, "width"), (3, 3, ("12", "345")), (4, 4, "width"), (5, 5, ("12", "345"))])

    def test_sides(self):
        pads = Fixed((("a", 4, "left", "x"), ("b", 4, "right", "x")))
        self.assertEqual(told(pads, "xaxxxaxx\nxxxxxxxx\naxxxxxxa\n"), [
            (1, 1, ("axx", "xa")), (2, 2, (None, None)), (3, 3, ("axxx", "xxxa"))])

    def test_quote_signs_mean_nothing(self):
        form = Fixed((("a", 3, "left", '"'),))
        self.assertEqual(told(form, '"a,\n"""\n,"a'), [(1, 1, ("a,",)), (2, 2, (None,)), (3, 3, (',"a',))])

    def test_other_pads(self):
        form = Fixed((("a", 2, "right", "0"), ("b", 2, "left", "-")))
        self.assertEqual(told(form, "10-1\n-000\n00--\n"), [
            (1, 1, ("1", "1")), (2, 2, ("-", "00")), (3, 3, (None, None))])


class WrongArgumentsTest(unittest.TestCase):
    def test_forms(self):
        for call in (records, names_of):
            for value in ODD + ("", "a", (FIXED,), Delimited, Fixed):
                self.assertEqual(caught(call, value, "a\n"), ("BadFormat", None))
                self.assertEqual(caught(call, value, None), ("BadFormat", None))

    def test_texts(self):
        for call in (records, names_of):
            for form in FORMS:
                for value in ODD + FORMS:
                    self.assertEqual(caught(call, form, value), ("BadText", None))
                self.assertEqual(caught(call, form, "a\n\t"), ("BadText", 2))
                self.assertEqual(caught(call, form, "\u0025"), ("BadText", 0))
                self.assertEqual(caught(call, form, "x" * 20001), ("BadText", 20000))


if __name__ == "__main__":
    unittest.main()
