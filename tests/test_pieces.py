"""Pieces: 4.7 and 4.8."""

import unittest

from bulkload.formats import Delimited, Fixed, records
from bulkload.pieces import joined, records_in, summary
from tests.helpers import FIXED, FORMS, ODD, ODDITIES, caught, every_text

TWO = Delimited(names=("a", "b"))
OTHER = Delimited(mark="x", quote=",", null='"', names=("a",))
EMPTY = (False, ("",), ("",))


def plain_summary(form, piece):
    """What 4.7 says, word by word."""
    if isinstance(form, Fixed):
        return (False, plain_cut(piece, "", piece), plain_cut(piece, "", piece))
    inside = form.quote + piece
    return (piece.count(form.quote) % 2 == 1, plain_cut(piece, form.quote, piece), plain_cut(piece, form.quote, inside))


def plain_cut(piece, quote, text):
    """The cut of a piece that stands at the end of a text."""
    start = len(text) - len(piece)
    ends = [at + 1 for at in range(start, len(text))
            if text[at] == "\n" and (quote == "" or text[:at].count(quote) % 2 == 0)]
    return tuple(text[begin:end] for begin, end in zip([start] + ends, ends + [len(text)]))


class SummaryTest(unittest.TestCase):
    def check(self, form, told):
        for piece, whole in told.items():
            self.assertEqual(summary(form, piece), whole)

    def test_delimited(self):
        for form in (Delimited(), TWO):
            self.check(form, {
                "": EMPTY, "a": (False, ("a",), ("a",)), '"': (True, ('"',), ('"',)), '""': (False, ('""',), ('""',)),
                "\n": (False, ("\n", ""), ("\n",)), "\n\n": (False, ("\n", "\n", ""), ("\n\n",)),
                '"\n': (True, ('"\n',), ('"\n', "")), '\n"\n': (True, ("\n", '"\n'), ('\n"\n', "")),
                'a\n"b\nc"\nd': (False, ("a\n", '"b\nc"\n', "d"), ('a\n"b\n', 'c"\nd')),
                '"""': (True, ('"""',), ('"""',)), "a,b\n": (False, ("a,b\n", ""), ("a,b\n",)),
            })
        self.check(OTHER, {",\n": (True, (",\n",), (",\n", "")), '"\n': (False, ('"\n', ""), ('"\n',))})

    def test_fixed(self):
        self.check(FIXED, {
            "": EMPTY, '"': (False, ('"',), ('"',)), "\n": (False, ("\n", ""), ("\n", "")),
            'a"\nb\n': (False, ('a"\n', "b\n", ""), ('a"\n', "b\n", "")), "a\nb": (False, ("a\n", "b"), ("a\n", "b")),
        })

    def test_every_short_piece(self):
        for form in (TWO, OTHER, FIXED):
            for piece in every_text('a,"\n', 6):
                whole = summary(form, piece)
                self.assertEqual(whole, plain_summary(form, piece))
                self.assertIs(whole[0].__class__, bool)

    def test_wrong_arguments(self):
        for value in ODD + ("", "a"):
            self.assertEqual(caught(summary, value, "a"), ("BadFormat", None))
            self.assertEqual(caught(summary, value, "\t"), ("BadFormat", None))
        for form in FORMS:
            for value in ODD + FORMS:
                self.assertEqual(caught(summary, form, value), ("BadText", None))
            self.assertEqual(caught(summary, form, "ab\u0025\t"), ("BadText", 2))
            self.assertEqual(caught(summary, form, "\n" * 20001), ("BadText", 20000))
            self.assertEqual(len(summary(form=form, piece="\n" * 20000)[1]), 20001)


class JoinedTest(unittest.TestCase):
    def test_two_pieces(self):
        for form in (TWO, OTHER, FIXED):
            for text in every_text('a,"\n', 5):
                whole = summary(form, text)
                for at in range(len(text) + 1):
                    one, other = summary(form, text[:at]), summary(form, text[at:])
                    self.assertEqual(joined(one, other), whole)
                    self.assertIs(joined(one, other)[0].__class__, bool)

    def orders(self, told):
        """The summaries that come of joining neighbors in every order."""
        if len(told) == 1:
            return [told[0]]
        return [joined(one, other) for at in range(1, len(told))
                for one in self.orders(told[:at]) for other in self.orders(told[at:])]

    def test_every_order(self):
        for form in (TWO, FIXED, Delimited(mark=";", quote="b", names=("x",))):
            for pieces in (('a,"', "\n", '"', "\n\n", "b"), ('"', '"', '"', "\n", '"', "\n"), ("", "", "\n", ""),
                           ("a\n", 'b"c\n', "", 'd"\n"', "e\n"), ("\n", "\n", '"\n', "\n", "\n")):
                whole = "".join(pieces)
                found = self.orders([summary(form, piece) for piece in pieces])
                self.assertGreater(len(found), 4)
                for one in found:
                    self.assertEqual(one, summary(form, whole))
                    self.assertEqual(records_in(form, one), records(form, whole))

    def test_sign_by_sign(self):
        text = '1,"a\n""b"\n\n2,x\n,"\n'
        for form in (TWO, OTHER, FIXED):
            forward, backward = EMPTY, EMPTY
            for at in range(len(text)):
                forward = joined(forward, summary(form, text[at]))
                backward = joined(summary(form, text[len(text) - 1 - at]), backward)
            self.assertEqual((forward, backward), (summary(form, text),) * 2)

    def test_the_empty_piece_changes_nothing(self):
        for form in (TWO, FIXED):
            for piece in ("", "a", '"', "\n", 'a"\n"\nb'):
                whole = summary(form, piece)
                self.assertEqual((joined(whole, EMPTY), joined(EMPTY, whole)), (whole, whole))

    def test_longer_than_a_text(self):
        piece = summary(TWO, "1,2\n" * 5000)
        whole = joined(one=joined(piece, piece), other=piece)
        self.assertEqual((len(whole[1]), len(whole[2])), (15001, 1))
        self.assertEqual(len(records_in(TWO, whole)), 15000)


class RecordsTest(unittest.TestCase):
    def test_however_it_is_cut(self):
        for form in (TWO, OTHER, FIXED):
            for text in every_text('a,"\n', 5):
                plain = records(form, text)
                self.assertEqual(records_in(form, summary(form, text)), plain)
                for at in range(len(text)):
                    whole = joined(summary(form, text[:at]), summary(form, text[at:]))
                    self.assertEqual(records_in(form=form, whole=whole), plain)

    def test_headers(self):
        form = Delimited()
        for text in ("a,b\n1,2\n3\n", '"a",b\n"\n",\n', "a", "a\n"):
            for at in range(len(text) + 1):
                whole = joined(summary(form, text[:at]), summary(form, text[at:]))
                self.assertEqual(records_in(form, whole), records(form, text))
        told = {"": "none", 'a"\n': "quote", "," * 30: "many", "a,B\n": "title", "a,a\n1,2\n": "twice"}
        for text, cause in told.items():
            for at in range(len(text) + 1):
                whole = joined(summary(form, text[:at]), summary(form, text[at:]))
                self.assertEqual(caught(records_in, form, whole), ("BadHeader", cause))

    def test_wrong_forms(self):
        for value in ODDITIES:
            if not isinstance(value, (Delimited, Fixed)):
                self.assertEqual(caught(records_in, value, EMPTY), ("BadFormat", None))
                self.assertEqual(caught(records_in, value, None), ("BadFormat", None))


class NoSummaryTest(unittest.TestCase):
    right = (EMPTY, (True, ("a\n", "b"), ("a\nb",)), (False, ("\n",), ("\n",)), (True, ("a",), ("a",)),
             (False, ("a\n", "\n", ""), ("a\n\n",)), (True, ("a\nb\n", "c"), ("a\n", "b\nc")),
             (False, ("x" * 20001,), ("x" * 20001,)), (True, ("~ ",), ("~ ",)))

    def test_what_has_the_form(self):
        """Nothing else is looked at."""
        for one in self.right:
            for other in self.right:
                self.assertEqual(len(joined(one, other)), 3)
            self.assertIsInstance(records_in(TWO, one), list)

    def test_what_is_none(self):
        cut = ("a\n", "b")
        cuts = [(), ["a\n", "b"], "a\nb", None, ("a", "b"), ("a\n", "", "b"), ("", "a\nb"), ("a\n", 1), (None, "b"),
                ("a\n", b"b"), ("a\n", ("b",)), ("a\n", "c"), ("a\n", "b\n"), ("a\n", "b", ""), (("a\n",), "b"),
                ("a\n", "b", "b"), {"a\n": 1, "b": 2}, ("",), *ODDITIES]
        wrong = [(False, cut, other) for other in cuts] + [(False, other, cut) for other in cuts]
        wrong += [(turns, cut, cut) for turns in (0, 1, None, "True", (), [], "", (True,), 2, FIXED)]
        wrong += [(True, cut), (True, cut, cut, cut), [True, cut, cut], (), (True,), (cut, cut), cut, (cut, True, cut)]
        wrong += [(False, (bad,), (bad,)) for bad in ("\t", "a\u0025", "\u00e9", "a" * 30000 + "\x00")]
        wrong += [(False, (bad + "\n", "a"), (bad + "\na",)) for bad in ("\t", "\u0025")]
        wrong += [(False, (), ()), (False, [""], [""]), (False, "", ""), (False, ("a",), ("b",)), (1, 2, 3), *ODDITIES]
        for value in wrong:
            for other in (EMPTY, self.right[1], value, None):
                self.assertEqual(caught(joined, value, other), ("BadSummary",))
                self.assertEqual(caught(joined, other, value), ("BadSummary",))
            for form in FORMS:
                self.assertEqual(caught(records_in, form, value), ("BadSummary",))


if __name__ == "__main__":
    unittest.main()
