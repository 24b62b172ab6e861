"""Disks: 11.1 to 11.3, and the interface's section on bulkload/disks.py."""

import itertools
import unittest

from bulkload.disks import Disk
from tests.helpers import ODDITIES, caught

NOT_TITLES = tuple(value for value in ODDITIES if not (isinstance(value, str) and value in ("a", "int", "yes")))
NOT_TEXTS = (("\u0025", 0), ("ab\t", 2), ("a\u00e9", 1), ("a" * 20001, 20000), ("a" * 20000 + "\t", 20000),
             ("a" * 19999 + "\t\t", 19999))


def told(disk):
    return (disk.files(), disk.head, disk.writes())


def ten(**files):
    return {**{f"f{at}": "x" for at in range(10 - len(files))}, **files}


class MakeTest(unittest.TestCase):
    def test_new(self):
        disk = Disk()
        self.assertEqual(told(disk), ({}, "", ()))
        disk = Disk(files={"a": "one", "b": "\n" * 30000}, head="h" * 100)
        self.assertEqual((disk.read("a"), disk.head, disk.writes()), ("one", "h" * 100, ()))
        self.assertEqual(disk.lost().files(), disk.files())
        with self.assertRaises(TypeError):
            Disk({}, "head")

    def test_files_belong_to_the_caller(self):
        files = {"a": "x"}
        disk = Disk(files)
        files["b"] = "y"
        disk.files()["c"] = "z"
        self.assertEqual(disk.files(), {"a": "x"})

    def test_bad_files(self):
        wrong = [value for value in ODDITIES if value is not None and not isinstance(value, dict)]
        wrong += [{"A": "x"}, {"": "x"}, {1: "x"}, {None: "x"}, {("a",): "x"}, {"a" * 21: "x"}, {"a": ""}, {"a": None},
                  {"a": 1}, {"a": b"x"}, {"a": ["x"]}, {"a": "\t"}, {"a": "x", "b": "\u0025"}, {"a": "x" * 30000 + "\r"},
                  {"a": 1}]
        for value in wrong:
            with self.assertRaises(ValueError) as error:
                Disk(value, head=None, room=None)
            self.assertEqual(type(error.exception).__name__, "BadFiles")
            self.assertIs(error.exception.value, value)

    def test_bad_head(self):
        for value in ODDITIES:
            if not isinstance(value, str):
                self.assertEqual(caught(Disk, head=value, room=None), ("BadText", None))
        for value, index in (("\t", 0), ("a" * 101, 100), ("a" * 100 + "\t", 100), ("a" * 99 + "\t\t", 99)):
            self.assertEqual(caught(Disk, head=value, room=None), ("BadText", index))

    def test_bad_room(self):
        for value in ODDITIES + (-1, 10 ** 9 + 1):
            if not (type(value) is int and 0 <= value <= 10 ** 9):
                self.assertEqual(caught(Disk, ten(a="x"), room=value)[0], "BadLength")
        self.assertEqual(caught(Disk, {f"f{at}": "x" for at in range(11)}, room=-1), ("BadLength", -1))
        self.assertEqual(Disk(room=10 ** 9).files(), {})
        self.assertEqual(Disk(room=0).files(), {})

    def test_too_many_then_no_room(self):
        files = {f"f{at}": "xy" for at in range(11)}
        self.assertEqual(caught(Disk, files, room=5), ("TooMany", 10))
        del files["f3"]
        self.assertEqual(caught(Disk, files, room=19), ("NoRoom", 20))
        self.assertEqual(caught(Disk, files, head="abc", room=22), ("NoRoom", 23))
        self.assertEqual(len(Disk(files, head="abc", room=23).files()), 10)
        self.assertEqual(caught(Disk, {"a": "x" * 100001}), ("NoRoom", 100001))
        self.assertEqual(caught(Disk, head="x", room=0), ("NoRoom", 1))


class WriteTest(unittest.TestCase):
    def test_appends(self):
        disk = Disk({"a": "x"})
        self.assertIsNone(disk.write("a", "y\n"))
        self.assertIsNone(disk.write(text="z", name="b"))
        self.assertEqual(disk.files(), {"a": "xy\n", "b": "z"})
        self.assertEqual((disk.read(name="a"), disk.read("c")), ("xy\n", ""))
        self.assertEqual(disk.writes(), (("write", "a", "y\n"), ("write", "b", "z")))

    def test_an_empty_text_changes_nothing(self):
        disk = Disk(ten(), room=10)
        disk.write("f1", "")
        disk.write("new", "")
        self.assertEqual(told(disk), (ten(), "", ()))

    def test_errors_in_their_order(self):
        disk = Disk(ten(), room=10)
        for value in NOT_TITLES:
            self.assertEqual(caught(disk.write, value, "\t")[0], "BadName")
            self.assertEqual(caught(disk.write, value, None)[0], "BadName")
        for value in ODDITIES:
            if not isinstance(value, str):
                self.assertEqual(caught(disk.write, "new", value), ("BadText", None))
        for text, index in NOT_TEXTS:
            self.assertEqual(caught(disk.write, "new", text), ("BadText", index))
        self.assertEqual(caught(disk.write, "new", "x"), ("TooMany", 10))
        self.assertEqual(caught(disk.write, "f1", "xy"), ("NoRoom", 12))
        self.assertEqual(told(disk), (ten(), "", ()))

    def test_ten_files_and_eleven(self):
        disk = Disk()
        for at in range(10):
            disk.write(f"f{at}", "x")
        self.assertEqual(caught(disk.write, "f10", "x"), ("TooMany", 10))
        disk.write("f9", "y")
        disk.drop("f0")
        disk.write("f10", "x")
        self.assertEqual(len(disk.files()), 10)

    def test_room_at_its_edge(self):
        """The head counts, too."""
        disk = Disk({"a": "xx"}, head="h", room=10)
        self.assertEqual(caught(disk.write, "a", "x" * 8), ("NoRoom", 11))
        self.assertEqual(caught(disk.write, "b", "x" * 8), ("NoRoom", 11))
        disk.write("b", "x" * 7)
        self.assertEqual(caught(disk.swap, "hi"), ("NoRoom", 11))
        disk.swap("i")
        disk.swap("")
        disk.cut("a", 1)
        disk.swap("hi")
        self.assertEqual((disk.files(), disk.head), ({"a": "x", "b": "x" * 7}, "hi"))

    def test_a_text_of_20000_characters(self):
        disk = Disk()
        disk.write("a", "x" * 20000)
        disk.write("a", "y" * 20000)
        self.assertEqual(len(disk.read("a")), 40000)


class OtherWriteTest(unittest.TestCase):
    def test_no_name_and_no_file(self):
        disk = Disk({"a": "x"})
        for call, more in ((disk.sync, ()), (disk.cut, (None,)), (disk.drop, ()), (disk.read, ())):
            for value in NOT_TITLES:
                with self.assertRaises(ValueError) as error:
                    call(value, *more)
                self.assertEqual(type(error.exception).__name__, "BadName")
                self.assertIs(error.exception.value, value)
            if call != disk.read:
                self.assertEqual(caught(call, "b", *more), ("NoFile", "b"))
        self.assertEqual(told(disk), ({"a": "x"}, "", ()))

    def test_cut(self):
        disk = Disk({"a": "abc", "b": "x"})
        for value in ODDITIES + (4, -1):
            if not (type(value) is int and 0 <= value <= 3):
                with self.assertRaises(ValueError) as error:
                    disk.cut("a", value)
                self.assertEqual(type(error.exception).__name__, "BadLength")
                self.assertIs(error.exception.value, value)
        self.assertIsNone(disk.cut("a", 3))
        self.assertEqual(told(disk), ({"a": "abc", "b": "x"}, "", ()))
        self.assertIsNone(disk.cut(name="a", length=2))
        disk.cut("b", 0)
        self.assertEqual(told(disk), ({"a": "ab"}, "", (("cut", "a", 2), ("cut", "b", 0))))
        self.assertEqual(caught(disk.cut, "b", 0), ("NoFile", "b"))

    def test_drop(self):
        disk = Disk({"a": "abc"}, room=3)
        self.assertIsNone(disk.drop(name="a"))
        self.assertEqual(caught(disk.drop, "a"), ("NoFile", "a"))
        disk.write("b", "xyz")
        self.assertEqual(disk.writes(), (("drop", "a"), ("write", "b", "xyz")))

    def test_swap(self):
        disk = Disk(head="x")
        for value in ODDITIES:
            if not isinstance(value, str):
                self.assertEqual(caught(disk.swap, value), ("BadText", None))
        for value, index in (("\t", 0), ("a" * 101, 100), ("a" * 100 + "\t", 100), ("a" * 99 + "\t\t", 99)):
            self.assertEqual(caught(disk.swap, value), ("BadText", index))
        self.assertIsNone(disk.swap("x"))
        self.assertEqual(disk.writes(), ())
        self.assertIsNone(disk.swap(text="a" * 100))
        disk.swap("")
        self.assertEqual((disk.head, disk.writes()), ("", (("swap", "a" * 100), ("swap", ""))))

    def test_sync(self):
        """It is told only if it makes something sure."""
        disk = Disk({"a": "x"})
        self.assertIsNone(disk.sync(name="a"))
        self.assertEqual(disk.writes(), ())
        disk.write("a", "y")
        disk.sync("a")
        disk.sync("a")
        self.assertEqual(disk.writes(), (("write", "a", "y"), ("sync", "a")))

    def test_head_is_only_read(self):
        self.assertIsInstance(vars(Disk)["head"], property)
        with self.assertRaises(AttributeError):
            Disk().head = "x"

    def test_results_belong_to_the_caller(self):
        disk = Disk({"a": "x"})
        self.assertIsNot(disk.files(), disk.files())
        self.assertIsInstance(disk.writes(), tuple)


class LossTest(unittest.TestCase):
    """11.3."""

    def kept(self, disk):
        """What is left of the file "a" for each number of characters that can be kept."""
        found = []
        for many in itertools.count():
            try:
                found.append(disk.lost({"a": many}).read("a"))
            except ValueError:
                return found

    def test_appends(self):
        disk = Disk({"a": "xy"})
        disk.write("a", "z")
        disk.write("a", "12")
        self.assertEqual(self.kept(disk), ["xy", "xyz", "xyz1", "xyz12"])
        disk.sync("a")
        self.assertEqual(self.kept(disk), ["xyz12"])
        disk.write("a", "3")
        self.assertEqual(self.kept(disk), ["xyz12", "xyz123"])

    def test_cuts(self):
        """Above the sure part, at its end, and below it."""
        for length, kept in ((5, ["abc", "abcd", "abcde"]), (3, ["abc"]), (2, ["ab"]), (1, ["a"])):
            disk = Disk({"a": "abc"})
            disk.write("a", "defg")
            disk.cut("a", length)
            self.assertEqual(self.kept(disk), kept)
            disk.write("a", "X")
            self.assertEqual(self.kept(disk), kept + ["abcdefg"[:length] + "X"])

    def test_files_that_were_not_there(self):
        disk = Disk()
        disk.write("a", "xy")
        self.assertEqual(self.kept(disk), ["", "x", "xy"])
        self.assertEqual(disk.lost().files(), {})

    def test_a_new_file_of_the_same_name(self):
        for drop in (lambda disk: disk.drop("a"), lambda disk: disk.cut("a", 0)):
            disk = Disk({"a": "abc"})
            drop(disk)
            self.assertEqual(disk.lost().files(), {})
            disk.write("a", "xy")
            self.assertEqual(self.kept(disk), ["", "x", "xy"])

    def test_the_head_stays(self):
        """And what was appended first can be lost."""
        disk = Disk(head="old")
        disk.write("a", "xy")
        disk.swap("new")
        lost = disk.lost()
        self.assertEqual(told(lost), ({}, "new", ()))

    def test_each_file_by_itself(self):
        disk = Disk({"a": "A", "b": "B", "c": "C"})
        for name in ("a", "b", "c"):
            disk.write(name, "12")
        disk.write("d", "34")
        for counts in itertools.product(range(3), repeat=4):
            kept = dict(zip("abcd", counts))
            files = {name: text[:many + (name != "d")] for (name, text), many in
                     zip((("a", "A12"), ("b", "B12"), ("c", "C12"), ("d", "34")), counts)}
            self.assertEqual(disk.lost(kept=kept).files(), {name: text for name, text in files.items() if text})
        self.assertEqual(disk.lost({"b": 1}).files(), {"a": "A", "b": "B1", "c": "C"})
        self.assertEqual(disk.lost({}).files(), disk.lost(None).files())

    def test_a_new_disk(self):
        """With the same room, of which all is sure; the old one stays."""
        disk = Disk({"a": "x"}, head="h", room=4)
        disk.write("a", "y")
        before = told(disk)
        lost = disk.lost({"a": 1})
        self.assertEqual(lost.writes(), ())
        self.assertEqual(caught(lost.write, "a", "zz"), ("NoRoom", 5))
        lost.write("a", "z")
        self.assertEqual((lost.lost().read("a"), told(disk)), ("xy", before))
        self.assertIs(type(lost), Disk)

    def test_bad_files(self):
        disk = Disk({"a": "x", "b": "y"})
        disk.write("a", "yz")
        wrong = [value for value in ODDITIES if value is not None and not isinstance(value, dict)]
        wrong += [{"a": 3}, {"a": -1}, {"b": 1}, {"c": 0}, {"a": True}, {"a": None}, {"a": "1"}, {1: 0}, {None: 0},
                  {("a",): 0}, {"a": 1, "c": 0}, {"A": 0}, {"a": 1}.keys()]
        for value in wrong:
            with self.assertRaises(ValueError) as error:
                disk.lost(value)
            self.assertEqual(type(error.exception).__name__, "BadFiles")
            self.assertIs(error.exception.value, value)
        self.assertEqual(disk.lost({"a": 2, "b": 0}).read("a"), "xyz")


if __name__ == "__main__":
    unittest.main()
