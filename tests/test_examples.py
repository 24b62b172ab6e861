"""The examples of the interface, and those of README.md."""

import doctest
import pathlib
import unittest

from bulkload.formats import Delimited, records
from bulkload.pieces import joined, summary
from bulkload.values import convert, show

README = pathlib.Path(__file__).resolve().parent.parent / "README.md"


class ExamplesTest(unittest.TestCase):
    def test_values(self):
        price = ("decimal", 0, 99999, 2)
        told = (convert(price, "1.5"), show(price, 150), convert(("date",), "0001-02-01"), show(("date",), 3652059))
        self.assertEqual(repr(told), "(150, '1.5', 32, '9999-12-31')")

    def test_formats(self):
        found = records(Delimited(names=("a", "b")), 'x,"y, ""z"""\n1\n,""\n')
        self.assertEqual(repr(found), "[(1, 1, 'x,\"y, \"\"z\"\"\"\\n', ('x', 'y, \"z\"'), None), "
                         "(2, 2, '1\\n', None, 'fields'), (3, 3, ',\"\"\\n', (None, ''), None)]")

    def test_pieces(self):
        one, other = summary(Delimited(), 'a,"b\n'), summary(Delimited(), 'c"\nd')
        self.assertEqual((one, joined(one, other)), (
            (True, ('a,"b\n',), ('a,"b\n', '')), (False, ('a,"b\nc"\n', 'd'), ('a,"b\n', 'c"\nd'))))

    def test_readme(self):
        found = doctest.testfile(str(README), module_relative=False)
        self.assertEqual(found.failed, 0)
        self.assertGreater(found.attempted, 10)


if __name__ == "__main__":
    unittest.main()
