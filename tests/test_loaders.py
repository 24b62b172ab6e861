"""Stores and loaders: 11.4 to 11.8, and the interface's section on bulkload/loaders.py. See test_losses.py."""

import unittest

from bulkload.disks import Disk
from bulkload.errors import BadHeader, NoRoom
from bulkload.formats import Delimited, Fixed, written
from bulkload.jobs import Job, Target
from bulkload.loaders import Loader, View, give_up, view
from bulkload.loads import load
from bulkload.schemas import Column, Schema, Table
from bulkload.tables import Database
from bulkload.units import WORDS
from tests.handling_setting import column, free
from tests.helpers import ODDITIES, caught
from tests.keeping_reading import characters, rows_of, weight_of

TABLE = Table("t", (column("k"), free("a"), free("s", default=("next", "q"))), ("k",), uniques=(("a",),),
              references=((("a",), "t", "end"),))
SCHEMA = Schema((TABLE,))
NAMES = ("to", "k", "a")
PAIRS = (("k", ("field", "k")), ("a", ("field", "a")))


def rule_for(sign, rule, pairs=PAIRS):
    return Target("t", pairs, rule=rule, condition=("is", ("field", "to"), sign))


TARGETS = (rule_for("i", "insert"), rule_for("m", "merge"), rule_for("x", "remove", PAIRS[:1]))
EMPTY = (None, None, 0, dict.fromkeys(WORDS, 0), (), ())


def job(header=False, **settings):
    return Job(Delimited() if header else Delimited(names=NAMES), TARGETS, **{"size": 2, **settings})


def seen(disk, schema=SCHEMA):
    """All that a view tells of the load."""
    told = view(disk, schema)
    return (told.name, told.status, told.position, told.counts, told.rejects, told.discards)


def short(disk):
    """The status, the position, and the rows."""
    told = view(disk, SCHEMA)
    return (told.status, told.position, [row[0] for row in told.database.rows("t")])


def counts(**words):
    return {**dict.fromkeys(WORDS, 0), **words}


def state_of(disk):
    return (disk.files(), disk.head, disk.writes())


class UnitTest(unittest.TestCase):
    """11.5: which units are complete."""

    def feed(self, pieces, **settings):
        """(answer, position, waiting) of each feed."""
        loader = Loader(Disk(), SCHEMA, job(**settings), "a")
        return [(loader.feed(piece), loader.position, loader.waiting) for piece in pieces]

    def test_size(self):
        self.assertEqual(self.feed(["i,1,", "\n", "i,2,\n", "i,3,\ni,4,\ni", ",5,\ni,6,", "", "\n"]), [
            (0, 0, 4), (0, 0, 5), (1, 10, 0), (1, 20, 1), (0, 20, 9), (0, 20, 9), (1, 30, 0)])
        self.assertEqual(self.feed(["i,1,\ni,2,\ni,3,\ni,4,\ni,5,\n"]), [(2, 20, 5)])
        self.assertEqual(self.feed(["i,1,\n", "i,2,\n"], size=1), [(1, 5, 0), (1, 10, 0)])

    def test_removals(self):
        """A unit is complete when the next record is complete and a removal, and that one is, too."""
        self.assertEqual(self.feed(["i,1,\n", "x,1", ",", "\n", "x,1,\nx,1,\ni,2,\n"]), [
            (0, 0, 5), (0, 0, 8), (0, 0, 9), (2, 10, 0), (2, 20, 5)])
        self.assertEqual(self.feed(["x,1,"]), [(0, 0, 4)])

    def test_at_most(self):
        """When so many are taken; what is not taken is done when all in front of it is."""
        self.assertEqual(self.feed(["i,1,\ni,2,\n", "i,3,\n", "i,4,\ni", ",5,\n"], at_most=3), [
            (1, 10, 0), (1, 15, 0), (0, 20, 1), (0, 25, 0)])
        self.assertEqual(self.feed(["i,1,\ni,2,\ni,3,\ni"], at_most=1, size=9), [(1, 15, 1)])
        self.assertEqual(self.feed(["i,1,\ni", ",2,\n"], at_most=0), [(0, 5, 1), (0, 10, 0)])

    def test_skip_first(self):
        self.assertEqual(self.feed(["i,1", ",\ni", ",2,\n", "i,3,\n", "i,4,\ni,5,\n"], skip_first=2), [
            (0, 0, 3), (0, 5, 1), (0, 10, 0), (0, 10, 5), (1, 20, 5)])
        self.assertEqual(self.feed(["i,1,\ni,2,\ni,3,\ni,4,\n"], skip_first=1, at_most=1), [(1, 20, 0)])
        pieces = [f"i,{at},\n" for at in range(6)]
        self.assertEqual(self.feed(pieces, skip_first=1, at_most=3), [
            (0, 5, 0), (0, 5, 5), (1, 15, 0), (1, 20, 0), (0, 25, 0), (0, 30, 0)])

    def test_header(self):
        self.assertEqual(self.feed(["to,k", ",a\ni", ",1,\n", "i,2,\n"], header=True), [
            (0, 0, 4), (0, 7, 1), (0, 7, 5), (1, 17, 0)])
        self.assertEqual(self.feed(["to,k,a\ni,1,\ni,2,\n"], header=True, skip_first=1), [(0, 12, 5)])
        self.assertEqual(self.feed(['"t', 'o",k,a', "\n"], header=True), [(0, 0, 2), (0, 0, 8), (0, 9, 0)])

    def test_line_feeds_inside(self):
        self.assertEqual(self.feed(['i,"', '1\n', '"', ',\n'], size=1), [(0, 0, 3), (0, 0, 5), (0, 0, 6), (1, 8, 0)])

    def test_each_character(self):
        text = "i,1,\nm,1,1\nx,1,\nz,,\ni,x,\ni,2"
        loader = Loader(Disk(), SCHEMA, job(), "a")
        self.assertEqual(sum(loader.feed(sign) for sign in text), 3)
        self.assertEqual((loader.position, loader.waiting), (25, 3))
        self.assertEqual(loader.finish(), counts(loaded=1, merged=1, removed=1, discarded=1, rejected=2))
        self.assertEqual(loader.position, len(text))

    def test_finish(self):
        """The rest is done, also a last record without a line feed."""
        disk = Disk()
        loader = Loader(disk, SCHEMA, job(), "a")
        self.assertEqual(loader.feed(text="i,1,\ni,2,\ni,3,"), 1)
        self.assertEqual(loader.finish(), counts(loaded=3))
        self.assertEqual((loader.status, loader.position, loader.waiting, loader.counts), ("done", 14, 0, counts(loaded=3)))
        self.assertEqual(short(disk), ("done", 14, [1, 2, 3]))
        for text in ("i,1,\nz", 'i,1,\ni,"2'):
            loader = Loader(Disk(), SCHEMA, job(at_most=1), "a")
            loader.feed(text)
            loader.finish()
            self.assertEqual(loader.position, len(text))

    def test_no_records(self):
        disk = Disk()
        loader = Loader(disk, SCHEMA, job(), "a")
        self.assertEqual((loader.feed(""), loader.finish()), (0, counts()))
        self.assertEqual(seen(disk), ("a", "done") + EMPTY[2:])
        loader = Loader(Disk(), SCHEMA, job(header=True), "a")
        loader.feed("to,k,a")
        self.assertEqual((loader.finish(), loader.position), (counts(), 6))

    def test_fixed(self):
        form = Fixed((("to", 1, "left", " "), ("k", 2, "left", "0"), ("a", 1, "right", " ")))
        loader = Loader(Disk(), SCHEMA, Job(form, TARGETS, size=1), "a")
        self.assertEqual((loader.feed('i01 \n"'), loader.feed("\ni02"), loader.position), (1, 1, 7))
        self.assertEqual(loader.finish(), counts(loaded=1, rejected=2))

    def test_rejects_and_discards(self):
        """With numbers and lines of the whole text, over pieces and loaders."""
        text = 'to,k,a\nz,,\ni,"\n",\ni,x,\ni,1,\nz,1,\ni,1,\n'
        disk = Disk()
        Loader(disk, SCHEMA, job(header=True, size=1), "a").feed(text[:20])
        position = view(disk, SCHEMA).position
        self.assertEqual(position, 18)
        loader = Loader(disk.lost(), SCHEMA, job(header=True, size=1), "a")
        self.assertEqual(loader.rejects, ((2, 3, ("value", "k", "number"), 'i,"\n",\n'),))
        loader.feed(text[position:])
        self.assertEqual(loader.rejects[1:], ((3, 5, ("value", "k", "number"), "i,x,\n"), (6, 8, ("key",), "i,1,\n")))
        self.assertEqual(loader.discards, ((1, 2, "z,,\n"), (5, 7, "z,1,\n")))


class StatusTest(unittest.TestCase):
    """11.6."""

    def done(self, disk, name="a", text="i,1,\n", **settings):
        loader = Loader(disk, SCHEMA, job(**settings), name)
        loader.feed(text)
        if loader.status == "open":
            loader.finish()
        return loader

    def test_open(self):
        """Only this load goes on."""
        disk = Disk()
        loader = Loader(disk=disk, schema=SCHEMA, job=job(), name="a")
        self.assertEqual((loader.status, seen(disk)), ("open", ("a", "open") + EMPTY[2:]))
        self.assertEqual(caught(Loader, disk, SCHEMA, job(), "b"), ("Busy", "a"))
        self.assertEqual(Loader(disk, SCHEMA, job(), "a").status, "open")

    def test_done(self):
        """It takes no text; another name begins a new load; what is done stays."""
        disk = Disk()
        first = self.done(disk)
        for loader in (first, Loader(disk, SCHEMA, job(), "a")):
            self.assertEqual((loader.status, loader.waiting), ("done", 0))
            before = state_of(disk)
            self.assertEqual(caught(loader.feed, "i,2,\n"), ("Over", "done"))
            self.assertEqual(caught(loader.feed, ""), ("Over", "done"))
            self.assertEqual(caught(loader.finish), ("Over", "done"))
            self.assertEqual(caught(loader.feed, None), ("BadText", None))
            self.assertEqual(state_of(disk), before)
        loader = Loader(disk, SCHEMA, job(), "b")
        self.assertEqual((loader.status, loader.position, loader.counts), ("open", 0, counts()))
        loader.feed("i,2,\n")
        self.assertEqual(loader.finish(), counts(loaded=1))
        self.assertEqual(short(disk), ("done", 5, [1, 2]))
        # The name is free again, as another load was begun.
        again = Loader(disk, SCHEMA, job(), "a")
        self.assertEqual((again.status, again.feed("i,3,\ni,1,\n"), again.rejects), (
            "open", 1, ((2, 2, ("key",), "i,1,\n"),)))

    def test_stopped(self):
        disk = Disk()
        text = "i,1,\ni,x,\ni,2,\ni,y,\ni,3,\nz,,\ni,z,\n"
        loader = Loader(disk, SCHEMA, job(most_rejects=1), "a")
        self.assertEqual(loader.feed(text), 1)
        self.assertEqual((loader.status, loader.position, loader.waiting, loader.counts),
                         ("stopped", 10, 0, counts(loaded=1, rejected=1)))
        self.assertEqual(short(disk), ("stopped", 10, [1]))
        self.assertEqual(caught(loader.feed, "x"), ("Over", "stopped"))
        self.assertEqual(caught(loader.finish), ("Over", "stopped"))
        self.assertEqual(caught(Loader, disk, SCHEMA, job(), "b"), ("Busy", "a"))
        again = Loader(disk, SCHEMA, job(most_rejects=1), "a")
        self.assertEqual((again.status, view(disk, SCHEMA).status, again.position), ("open", "open", 10))
        self.assertEqual((again.feed(text[10:14]), again.status), (0, "open"))
        self.assertEqual((again.feed(text[14:]), again.status), (0, "stopped"))
        more = Loader(disk, SCHEMA, job(most_rejects=2), "a")
        self.assertEqual((more.feed(text[10:]), more.status), (2, "open"))
        self.assertEqual(more.finish(), counts(loaded=3, rejected=2, discarded=1))
        self.assertEqual((more.status, more.position), ("stopped", 29))
        last = Loader(disk, SCHEMA, job(), "a")
        self.assertEqual((last.feed(text[29:]), last.finish()["rejected"], last.status), (0, 3, "done"))
        self.assertEqual(view(disk, SCHEMA).database.version, 4)

    def test_a_smaller_limit(self):
        """The load is stopped in front of the next unit, whatever is in it, and if there is none it is done."""
        for text, status in (("i,1,\ni,2,\n", "stopped"), ("", "done")):
            disk = Disk()
            Loader(disk, SCHEMA, job(), "a").feed("i,x,\ni,y,\n")
            loader = Loader(disk, SCHEMA, job(most_rejects=1), "a")
            loader.feed(text)
            if loader.status == "open":
                loader.finish()
            self.assertEqual(loader.status, status)

    def test_strict(self):
        """Records that fell with their unit have no reason of their own, also for a new loader."""
        disk = Disk()
        Loader(disk, SCHEMA, job(strict=True, most_rejects=1), "a").feed("i,1,\ni,x,\n")
        self.assertEqual(view(disk, SCHEMA).counts, counts(rejected=2))
        loader = Loader(disk, SCHEMA, job(strict=True, most_rejects=2), "a")
        self.assertEqual((loader.feed("i,x,\ni,2,\n"), loader.status), (1, "open"))
        self.assertEqual((loader.feed("i,x,\ni,2,\n"), loader.status), (0, "stopped"))
        self.assertEqual(loader.rejects[2:], ((3, 3, ("value", "k", "number"), "i,x,\n"), (4, 4, ("unit", 3), "i,2,\n")))

    def test_given_up(self):
        disk = Disk()
        Loader(disk, SCHEMA, job(), "a").feed("i,1,\ni,x,\ni,2")
        self.assertIsNone(give_up(disk=disk, schema=SCHEMA, name="a"))
        self.assertEqual(seen(disk), ("a", "left", 10, counts(loaded=1, rejected=1),
                                      ((2, 2, ("value", "k", "number"), "i,x,\n"),), ()))
        self.assertEqual(caught(give_up, disk, SCHEMA, "a"), ("NoLoad", "a"))
        loader = Loader(disk, SCHEMA, job(), "a")
        self.assertEqual((loader.status, loader.position, loader.counts, loader.rejects), ("open", 0, counts(), ()))
        self.assertEqual((loader.feed("i,1,\ni,2,\n"), loader.counts), (1, counts(loaded=1, rejected=1)))
        give_up(disk, SCHEMA, "a")
        self.assertEqual(Loader(disk, SCHEMA, job(), "b").status, "open")
        self.assertEqual(short(disk), ("open", 0, [1, 2]))

    def test_give_up_what_stopped(self):
        disk = Disk()
        self.done(disk, text="i,1,\ni,x,\n", most_rejects=0)
        self.assertEqual(view(disk, SCHEMA).status, "stopped")
        give_up(disk, SCHEMA, "a")
        self.assertEqual(short(disk), ("left", 0, []))

    def test_no_load_to_give_up(self):
        done, fresh, going = Disk(), Disk(), Disk()
        self.done(done)
        Loader(going, SCHEMA, job(), "a")
        for disk in (done, fresh, going):
            before = state_of(disk)
            for value in ODDITIES + ("b", "A", ("a",)):
                if disk != going or value != "a" or not isinstance(value, str):
                    with self.assertRaises(ValueError) as told:
                        give_up(disk, SCHEMA, value)
                    self.assertEqual(type(told.exception).__name__, "NoLoad")
                    self.assertIs(told.exception.value, value)
            self.assertEqual(state_of(disk), before)
        self.assertEqual(caught(give_up, done, SCHEMA, "a"), ("NoLoad", "a"))

    def test_versions_and_numbers_go_on(self):
        disk = Disk()
        self.done(disk, text="i,1,\ni,2,\nz,,\n")
        self.done(disk, "b", text="i,3,\n")
        database = view(disk, SCHEMA).database
        self.assertEqual((database.version, database.last_number("q"), database.rows("t")),
                         (3, 3, [(1, None, 1), (2, None, 2), (3, None, 3)]))


class ErrorTest(unittest.TestCase):
    def test_loader(self):
        """BadJob, then BadName, then Busy; nothing is changed."""
        disk = Disk()
        Loader(disk, SCHEMA, job(), "a")
        before = state_of(disk)
        for value in ODDITIES:
            if not isinstance(value, (Delimited, Fixed)):
                self.assertEqual(caught(Loader, disk, SCHEMA, Job(value, TARGETS), None), ("BadJob", None, "format"))
            if not (type(value) is int and 1 <= value <= 100):
                self.assertEqual(caught(Loader, disk, SCHEMA, job(size=value), None), ("BadJob", None, "size"))
            if value not in ("a", "int", "yes") or not isinstance(value, str):
                with self.assertRaises(ValueError) as told:
                    Loader(disk, SCHEMA, job(), value)
                self.assertEqual(type(told.exception).__name__, "BadName")
                self.assertIs(told.exception.value, value)
        self.assertEqual(caught(Loader, disk, SCHEMA, job(), "b"), ("Busy", "a"))
        self.assertEqual(state_of(disk), before)

    def test_feed(self):
        """BadText, then Over; such a call changes nothing, and the loader goes on."""
        disk = Disk()
        loader = Loader(disk, SCHEMA, job(), "a")
        loader.feed("i,1,\ni,")
        before = (state_of(disk), loader.position, loader.waiting)
        for value in ODDITIES:
            if not isinstance(value, str):
                self.assertEqual(caught(loader.feed, value), ("BadText", None))
        for value, index in (("2,\n\u0025", 3), ("a" * 20001, 20000), ("\t", 0)):
            self.assertEqual(caught(loader.feed, value), ("BadText", index))
        self.assertEqual((state_of(disk), loader.position, loader.waiting), before)
        self.assertEqual((loader.feed("2,\n"), loader.position), (1, 10))

    def test_header(self):
        """When it is complete; nothing is changed then, and another piece can be fed."""
        for piece, cause in (('"x"y,k\n', "quote"), ("," * 29 + "\n", "many"), ("O\n", "title"), ("\n", "title"),
                             (",to\n", "twice")):
            disk = Disk()
            loader = Loader(disk, SCHEMA, job(header=True), "a")
            self.assertEqual((loader.feed("to,k"), loader.waiting), (0, 4))
            before = state_of(disk)
            if cause == "title" and piece == "\n":
                piece = ",\n"
            self.assertEqual(caught(loader.feed, piece), ("BadHeader", cause))
            self.assertEqual((state_of(disk), loader.position, loader.waiting, loader.status), (before, 0, 4, "open"))
            self.assertEqual((loader.feed(",a\ni,1,\ni,2,\n"), loader.position), (1, 17))

    def test_what_hangs_on_the_header(self):
        disk = Disk()
        loader = Loader(disk, SCHEMA, job(header=True), "a")
        before = state_of(disk)
        self.assertEqual(caught(loader.feed, "k,a\n1,\n"), ("BadJob", 0, "condition"))
        self.assertEqual(caught(loader.feed, "to,k\ni,1\n"), ("BadJob", 0, "expression"))
        loader.feed("to")
        self.assertEqual(caught(loader.finish), ("BadJob", 0, "expression"))
        self.assertEqual((state_of(disk), loader.position, loader.waiting, loader.status), (before, 0, 2, "open"))
        self.assertEqual(loader.feed(",k,a\n"), 0)
        self.assertEqual(loader.finish(), counts())

    def test_finish_without_a_record(self):
        disk = Disk()
        loader = Loader(disk, SCHEMA, job(header=True), "a")
        before = state_of(disk)
        for _ in range(2):
            self.assertEqual(caught(loader.finish), ("BadHeader", "none"))
        self.assertEqual((state_of(disk), loader.status), (before, "open"))
        loader.feed('"')
        with self.assertRaises(BadHeader) as told:
            loader.finish()
        self.assertEqual(told.exception.cause, "quote")
        self.assertEqual((loader.feed('to",k,a\ni,1,\n'), loader.finish()), (0, counts(loaded=1)))

    def test_a_new_loader_behind_the_header(self):
        """What stands in front of the position is not needed any more."""
        disk = Disk()
        Loader(disk, SCHEMA, job(header=True), "a").feed("to,k,a\ni")
        self.assertEqual(view(disk, SCHEMA).position, 7)
        loader = Loader(disk.lost(), SCHEMA, job(header=True), "a")
        self.assertEqual(loader.position, 7)
        self.assertEqual((loader.feed("i,1,\ni,2"), loader.finish()), (0, counts(loaded=1, rejected=1)))

    def test_no_room(self):
        """It comes through the making of a loader, feed, finish and give_up."""
        tiny = Disk(room=20)
        self.assertEqual(caught(Loader, tiny, SCHEMA, job(), "a")[0], "NoRoom")
        self.assertEqual(seen(tiny), EMPTY)
        for do in (lambda loader, disk: loader.feed("i,1,\ni,2,\n"), lambda loader, disk: loader.finish(),
                   lambda loader, disk: give_up(disk, SCHEMA, "a")):
            disk = Disk()
            Loader(disk, SCHEMA, job(), "a")
            full = Disk(disk.files(), head=disk.head, room=characters(disk) + len(disk.head) + 5)
            loader = Loader(full, SCHEMA, job(), "a")
            before = seen(full)
            with self.assertRaises(NoRoom):
                do(loader, full)
            self.assertEqual(seen(full), before)
            roomy = Disk(full.files(), head=full.head)
            again = Loader(roomy, SCHEMA, job(), "a")
            self.assertEqual((again.feed("i,1,\ni,2,\n"), short(roomy)), (1, ("open", 10, [1, 2])))

    def test_failed(self):
        disk = Disk()
        Loader(disk, SCHEMA, job(), "a")
        full = Disk(disk.files(), head=disk.head, room=characters(disk) + len(disk.head) + 110)
        loader = Loader(full, SCHEMA, job(size=1), "a")
        self.assertEqual(caught(loader.feed, "i,1,\ni,2,\ni,3,\n")[0], "NoRoom")
        self.assertEqual(short(full), ("open", 5, [1]))
        self.assertEqual(caught(loader.feed, "x"), ("Over", "failed"))
        self.assertEqual(caught(loader.feed, None), ("BadText", None))
        self.assertEqual(caught(loader.finish), ("Over", "failed"))
        self.assertEqual(caught(Loader(full, SCHEMA, job(size=1), "a").feed, "i,2,\n")[0], "NoRoom")


class ViewTest(unittest.TestCase):
    def test_without_a_load(self):
        disk = Disk()
        told = view(disk=disk, schema=SCHEMA)
        self.assertIs(type(told), View)
        self.assertEqual(seen(disk), EMPTY)
        self.assertIs(type(told.database), Database)
        self.assertEqual((told.database.rows("t"), told.database.version, told.database.schema is SCHEMA), ([], 0, True))
        self.assertEqual(disk.writes(), ())

    def test_nothing_is_written(self):
        disk = Disk()
        loader = Loader(disk, SCHEMA, job(), "a")
        loader.feed("i,1,\ni,2,\n")
        before = state_of(disk)
        told = view(disk, SCHEMA)
        loader.feed("m,1,2\ni,3,\n")
        self.assertEqual((told.database.rows("t"), told.position), ([(1, None, 1), (2, None, 2)], 10))
        self.assertEqual(before[2], disk.writes()[:len(before[2])])
        after = state_of(disk)
        view(disk, SCHEMA)
        self.assertEqual(state_of(disk), after)

    def test_what_belongs_to_the_caller(self):
        disk = Disk()
        loader = Loader(disk, SCHEMA, job(), "a")
        loader.feed("i,1,\ni,x,\n")
        told = view(disk, SCHEMA)
        for holder in (told, loader):
            holder.counts["loaded"] = 9
            self.assertEqual(holder.counts, counts(loaded=1, rejected=1))
            self.assertIsInstance(holder.rejects, tuple)
            self.assertIsInstance(holder.discards, tuple)
        counted = loader.finish()
        counted["loaded"] = 9
        self.assertEqual(loader.counts["loaded"], 1)
        load(told.database, Job(Delimited(names=NAMES), TARGETS), "i,5,\n")
        self.assertEqual(short(disk)[2], [1])

    def test_properties_are_only_read(self):
        disk = Disk()
        loader = Loader(disk, SCHEMA, job(), "a")
        for holder in (loader, view(disk, SCHEMA)):
            for name in ("position", "status", "counts", "rejects", "discards"):
                with self.assertRaises(AttributeError):
                    setattr(holder, name, 1)


class ValueTest(unittest.TestCase):
    def test_all_kinds(self):
        """All values come back: of each kind, at their ends, and texts of all signs."""
        signs = "".join(chr(code) for code in range(32, 127) if code != 37) + "\n"
        big = 10 ** 18 - 1
        kinds = (("int", -big, big), ("decimal", -big, big, 9), ("text", 1000), ("choice", (signs[:20], "-", "1:")),
                 ("truth",), ("date",))
        columns = tuple(Column(f"c{at}", kind, nullable=at > 0) for at, kind in enumerate(kinds))
        sums = Table("sums", (Column("c0", kinds[0]), Column("n", ("int", 0, big))), ("c0",))
        table = Table("t", columns, ("c0",), tallies=(("sums", ("c0",), None, "n"),))
        schema = Schema((sums, table))
        names = tuple(item.title for item in columns)
        rows = ((str(big), "999999999.999999999", signs, "-", "yes", "9999-12-31"),
                (str(-big), "-999999999.999999999", "", "1:", "no", "0001-01-01"),
                ("0", "0.000000001", "-", signs[:20], None, None), ("1", None, None, None, None, None),
                ("-5", "-1", "\n" * 1000, None, "no", "2000-02-29"), ("7", "1", "5:hello", None, "no", None))
        form = Delimited(names=names, null="~")
        whole = Job(form, (Target("t", tuple((name, ("field", name)) for name in names)),), size=1)
        text = written(form, rows)
        disk = Disk()
        loader = Loader(disk, schema, whole, "a" * 20)
        loader.feed(text)
        loader.finish()
        database = Database(schema)
        load(database, whole, text)
        self.assertEqual(len(database.rows("t")), 6)
        self.assertEqual(repr(rows_of(schema, view(disk, schema).database)), repr(rows_of(schema, database)))

    def test_keys_of_each_kind(self):
        """Rows that are taken away are told by their keys."""
        kinds = (("text", 9), ("decimal", -99, 99, 1), ("truth",), ("date",), ("choice", ("a", "b")))
        columns = tuple(Column(f"c{at}", kind) for at, kind in enumerate(kinds)) + (free("v"),)
        names = tuple(item.title for item in columns)
        schema = Schema((Table("t", columns, ("c3", "c0", "c4", "c2", "c1")),))
        keys = tuple((name, ("field", name)) for name in names[:5])
        remove = Target("t", keys, rule="remove", condition=("is", ("field", "v"), "9"))
        put = Target("t", keys + (("v", ("field", "v")),), rule="replace")
        lines = ['"a\n1",1.5,yes,2000-01-01,a,1', '"",-9.9,no,0001-01-01,b,2', "b,0,no,9999-12-31,b,3"]
        removed = [line[:-1] + "9" for line in lines]
        disk = Disk()
        loader = Loader(disk, schema, Job(Delimited(names=names, null="~"), (remove, put), size=1), "a")
        loader.feed("\n".join(lines) + "\n")
        self.assertEqual(len(view(disk, schema).database.rows("t")), 3)
        for at in (1, 0, 2):
            loader.feed(removed[at] + "\n")
            self.assertEqual(view(disk, schema).database.rows("t"), loader._store.holdings.contents.rows_of("t"))
        self.assertEqual(view(disk, schema).database.rows("t"), [])
        self.assertEqual(loader.counts, counts(loaded=3, removed=3))

    def test_reasons(self):
        """All reasons come back in rejects."""
        text = "i,x,\ni,,\ni,1,1\ni,1,\ni,2,1\ni,3,9\nx,9,\nx,1,\ni,1\n"
        disk = Disk()
        loader = Loader(disk, SCHEMA, job(), "a")
        loader.feed(text)
        loader.finish()
        database = Database(SCHEMA)
        result = load(database, job(), text)
        self.assertEqual(view(disk, SCHEMA).rejects, result.rejects)
        self.assertEqual({reject[2][0] for reject in result.rejects},
                         {"value", "missing", "key", "unique", "reference", "absent", "format"})


class BoundTest(unittest.TestCase):
    """11.8: what is not needed any more has to go in time."""

    def check(self, disk, schema=SCHEMA, header=""):
        told = view(disk, schema)
        weight = weight_of(schema, rows_of(schema, told.database), told.rejects, told.discards, header)
        self.assertLessEqual(characters(disk), 3 * weight + 2000)
        return weight

    def test_many_units_in_a_small_store(self):
        """The weight does not grow with the number of units."""
        disk = Disk(room=6 * 200 + 6000)
        loader = Loader(disk, SCHEMA, job(size=1), "a")
        for _ in range(50):
            loader.feed("m,1,1\n" * 40)
            self.assertLess(self.check(disk), 200)
        self.assertEqual(loader.finish(), counts(loaded=1, merged=1999))

    def test_rows_that_go(self):
        table = Table("t", (Column("k", ("int", 0, 999)), Column("a", ("text", 1000))), ("k",))
        schema = Schema((table,))
        targets = (rule_for("x", "remove", PAIRS[:1]), Target("t", PAIRS, rule="replace"))
        disk = Disk(room=10 ** 6)
        loader = Loader(disk, schema, Job(Delimited(names=NAMES), targets, size=3), "a")
        for at in range(15):
            loader.feed(f"i,{at},{'y' * 1000}\n")
            self.check(disk, schema)
        for at in range(15):
            loader.feed(f"x,{at},\n")
            self.check(disk, schema)
        self.assertLess(characters(disk), 2000)

    def test_a_store_of_more_characters_than_a_write(self):
        """It is written anew as a whole, in several writes."""
        table = Table("t", (Column("k", ("int", 0, 9999)), Column("a", ("text", 1000)), free("b")), ("k",))
        schema = Schema((table,))
        pairs = PAIRS + (("b", ("field", "b")),)
        form = Delimited(names=NAMES + ("b",))
        disk = Disk(room=10 ** 6)
        for name in ("a", "b", "c"):
            loader = Loader(disk, schema, Job(form, (Target("t", pairs, rule="replace"),), size=1), name)
            for at in range(18):
                loader.feed(f"i,{ord(name)}{at},{name * 1000},\n")
            loader.finish()
            self.check(disk, schema)
        loader = Loader(disk, schema, Job(form, (Target("t", pairs[::2], rule="merge"),), size=1), "d")
        for at in range(100):
            for k in range(18):
                loader.feed(f"i,97{k},,{(at + k) % 10}\n" if at % 5 == 0 else "")
        self.check(disk, schema)
        self.assertTrue(any(write[0] == "write" and len(write[2]) == 20000 for write in disk.writes()))
        self.assertEqual(len(view(disk, schema).database.rows("t")), 54)

    def test_rejects_that_go_with_their_load(self):
        disk = Disk(room=10 ** 6)
        loader = Loader(disk, SCHEMA, job(), "a")
        loader.feed(("i," + "x" * 90 + ",\n") * 200)
        loader.finish()
        self.assertGreater(self.check(disk), 40000)
        Loader(disk, SCHEMA, job(), "b")
        self.assertLess(self.check(disk), 100)
        self.assertLess(characters(disk), 2000)

    def test_a_long_header(self):
        """It is kept; twice its length is of the weight."""
        names = ["to", "k", "a"] + [f"n{at}" + "x" * 17 for at in range(10, 37)]
        header = ",".join(f'"{name}"' for name in names) + "\n"
        disk = Disk(room=10 ** 6)
        loader = Loader(disk, SCHEMA, job(header=True, size=1), "a")
        loader.feed(header)
        self.check(disk, header=header)
        for _ in range(100):
            loader.feed("m,1,1" + "," * 27 + "\n")
            self.check(disk, header=header)
            disk = disk.lost()
            loader = Loader(disk, SCHEMA, job(header=True, size=1), "a")
            self.check(disk, header=header)

    def test_a_great_store(self):
        """10,000 rows and 2,000 units, without an error of the program's own."""
        columns = tuple(Column(f"c{at}", ("int", 0, 99999), nullable=at > 0) for at in range(4))
        schema = Schema((Table("t", columns, ("c0",), uniques=(("c1",),)),))
        names = tuple(item.title for item in columns)
        target = Target("t", tuple((name, ("field", name)) for name in names), rule="replace")
        disk = Disk(room=10 ** 7)
        for part in range(5):
            loader = Loader(disk, schema, Job(Delimited(names=names), (target,), size=100 if part < 4 else 1), f"l{part}")
            text = "".join(f"{at},{at},,\n" for at in range(part * 1250, part * 1250 + 1250))
            loader.feed(text[:9000])
            loader.feed(text[9000:])
            self.assertEqual(loader.finish(), counts(loaded=1250))
        self.check(disk, schema)
        self.assertEqual(len(view(disk, schema).database.rows("t")), 6250)
        # What is written in all is not much more than what is there.
        written_in_all = sum(len(write[2]) for write in disk.writes() if write[0] == "write")
        self.assertLess(written_in_all, 3 * characters(disk))

    def test_what_is_written(self):
        """Of each unit what is new; so also a load with many rejects writes little in all."""
        disk = Disk(room=10 ** 6)
        loader = Loader(disk, SCHEMA, job(size=1), "a")
        for at in range(1500):
            loader.feed(f"i,x{at}\n")
        self.assertLess(sum(len(write[2]) for write in disk.writes() if write[0] == "write"), 4 * characters(disk))
        before = len(disk.writes())
        loader.feed("i,1,\ni,2,\n")
        self.assertEqual(len(disk.writes()) - before, 6)
        loader.feed("i,3")
        self.assertEqual(len(disk.writes()) - before, 6)


if __name__ == "__main__":
    unittest.main()
