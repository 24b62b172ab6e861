"""Drawn loads through loaders, with losses of power at every write: 11.5 to 11.8.

Everything is held against plain readings of sections 9 to 11, and at the end against load of the whole text.
"""

import collections
import copy
import random
import unittest

from bulkload.disks import Disk
from bulkload.errors import NoRoom, Over
from bulkload.jobs import Job
from bulkload.loaders import Loader, give_up, view
from bulkload.loads import load
from bulkload.tables import Database
from tests.drawn import drawn_job, drawn_schema, drawn_text
from tests.keeping_reading import (Expected, Prefix, boundaries_of, characters, header_of, replayed, rows_of, store_told,
                                   weight_of)
from tests.plain_reading import State

ROOM = 10 ** 6
SEQUENCES = ("s", "t")


def with_settings(job, **settings):
    """The same job with other settings."""
    fields = {name: getattr(job, name) for name in ("size", "most_rejects", "strict", "skip_first", "at_most")}
    return Job(job.form, job.targets, **{**fields, **settings})


def numbers_of(holder):
    return [holder.last_number(sequence) for sequence in SEQUENCES]


class Case:
    """A drawn load on a store in which another one may have been done before."""

    def __init__(self, seed, most=12, **settings):
        self.draw = random.Random(seed)
        self.schema = drawn_schema(self.draw)
        self.base = State(self.schema)
        self.disk = Disk(room=ROOM)
        self.name = "first"
        if self.draw.random() < 0.5:
            self.begin(most, **settings)
            Expected(self.base, self.job, self.text, len(self.text), True)
            loader = Loader(self.disk, self.schema, self.job, "first")
            loader.feed(self.text)
            if loader.status == "open":
                loader.finish()
            if loader.status == "stopped":
                give_up(self.disk, self.schema, "first")
            self.name = "second"
        self.begin(most, **settings)

    def begin(self, most, **settings):
        if self.draw.random() < 0.3:
            settings = {"most_rejects": self.draw.randint(0, 4), **settings}
        self.job = drawn_job(self.draw, self.schema, **settings)
        self.text = drawn_text(self.draw, self.schema, self.job, self.draw.choice((3, most)))

    def expected(self, fed, is_over):
        return Expected(copy.deepcopy(self.base), self.job, self.text, fed, is_over)

    def piece(self, fed):
        return self.text[fed:fed + self.draw.choice((1, 4, 15, 60, 500))]


def view_told(case, disk):
    """All that a view tells."""
    seen = view(disk, case.schema)
    database = seen.database
    return (store_told(seen), rows_of(case.schema, database), numbers_of(database), database.version)


def expected_told(expected):
    state = expected.state
    told = (expected.status, expected.position, expected.words, expected.rejects, expected.discards)
    return (told, {title: state.rows(title) for title in state.schema.titles},
            [state.numbers.get(sequence, 0) for sequence in SEQUENCES], state.version)


class Session:
    """A loader on a copy of a disk that is fed to the end; what was true when each call had returned.

    Each call is (writes before it, writes behind it, characters fed, whether the text was over).
    """

    def __init__(self, case, disk):
        self.before = disk
        self.disk = replayed(disk, (), ROOM)
        self.calls = []
        self.answers = []
        self.call(lambda: self.make(case), None, False)
        self.fed = view(self.disk, case.schema).position
        while self.loader.status == "open":
            piece = case.piece(self.fed)
            if piece == "":
                self.call(self.loader.finish, len(case.text), True)
            else:
                self.fed += len(piece)
                self.call(lambda: self.loader.feed(piece), self.fed, False)

    def make(self, case):
        self.loader = Loader(self.disk, case.schema, case.job, case.name)

    def call(self, do, fed, is_over):
        before = len(self.disk.writes())
        self.answers.append(do())
        self.calls.append((before, len(self.disk.writes()), fed, is_over))

    def disk_at(self, many):
        """The disk behind so many writes."""
        return replayed(self.before, self.disk.writes()[:many], ROOM)


def losses(disk, some=None):
    """The disks behind a loss, with each part kept of each file, or with a few of the parts."""
    found = [disk.lost()]
    for name, text in disk.files().items():
        unsure = len(text) - len(disk.lost().read(name))
        parts = range(1, unsure + 1) if some is None else sorted({1, unsure // 2, unsure - 1, unsure})
        found += [disk.lost({name: many}) for many in parts if 1 <= many <= unsure]
    return found


class CallTest(unittest.TestCase):
    def test_each_call(self):
        """position, waiting, status, counts, rejects, discards, rows and the answer behind each call."""
        seen = collections.Counter()
        for seed in range(150):
            case = Case(f"calls {seed}", 30)
            session = Session(case, case.disk)
            done = 0
            for at, (_, behind, fed, is_over) in enumerate(session.calls):
                expected = case.expected(0 if fed is None else fed, is_over)
                with self.subTest(seed=seed, call=at):
                    self.assertEqual(view_told(case, session.disk_at(behind)), expected_told(expected))
                    if is_over:
                        self.assertEqual(session.answers[at], expected.words)
                    elif fed is not None:
                        self.assertEqual(session.answers[at], expected.units - done)
                    done = expected.units
            self.assertEqual(store_told(session.loader), expected_told(expected)[0])
            seen[expected.status] += 1
        self.assertGreater(min(seen["done"], seen["stopped"]), 5)

    def test_properties_of_the_loader(self):
        """They tell what the view does; what waits is what was fed and is not done."""
        for seed in range(100):
            case = Case(f"properties {seed}", 20)
            disk = replayed(case.disk, (), ROOM)
            loader = Loader(disk, case.schema, case.job, case.name)
            fed = 0
            while loader.status == "open":
                piece = case.piece(fed)
                fed += len(piece)
                loader.feed(piece) if piece else loader.finish()
                self.assertEqual(store_told(loader), store_told(view(disk, case.schema)))
                self.assertEqual(loader.waiting, fed - loader.position if loader.status == "open" else 0)
            word = loader.status
            for call in (lambda: loader.feed("x"), loader.finish):
                with self.assertRaises(Over) as told:
                    call()
                self.assertEqual(told.exception.word, word)

    def test_like_load(self):
        """The end of a load through a loader is that of load."""
        for seed in range(150):
            case = Case(f"like {seed}", 30)
            database = Database(case.schema)
            for title in case.base.tables:
                for key, row in case.base.tables[title].items():
                    database._contents.tables[title][key] = tuple(row.values())
            for title in case.schema.tally_titles():
                for row in case.base.rows(title):
                    database._contents.tables[title][database.key_of(title, row)] = row
            database._contents.numbers.update(case.base.numbers)
            database._contents.handled = case.base.version
            session = Session(case, case.disk)
            result = load(database, case.job, case.text)
            seen = view(session.disk, case.schema)
            self.assertEqual((seen.status, seen.counts, seen.rejects, seen.discards),
                             (result.status, result.counts, result.rejects, result.discards))
            self.assertEqual(rows_of(case.schema, seen.database), rows_of(case.schema, database))
            self.assertEqual((seen.database.version, numbers_of(seen.database)),
                             (database.version, numbers_of(database)))


class LossTest(unittest.TestCase):
    """11.7."""

    def check_loss(self, case, session, many, disk):
        """The store behind a loss behind so many writes is that behind some whole number of units."""
        told = view_told(case, disk)
        done = [call for call in session.calls if call[1] <= many]
        if view(disk, case.schema).name != case.name:
            # It was being begun; what was in front of it is there.
            self.assertEqual((done, told), ([], view_told(case, session.before)))
            return
        status, position = told[0][:2]
        begun = view(session.before, case.schema).name == case.name
        if done and done[-1][2] is not None:
            expected = case.expected(done[-1][2], done[-1][3])
            self.assertGreaterEqual(told[3] - case.base.version, expected.units)
            self.assertGreaterEqual(position, expected.position)
        elif begun:
            before = view(session.before, case.schema)
            self.assertGreaterEqual((position, told[3]), (before.position, before.database.version))
        begins, ends = boundaries_of(case.schema, case.job, case.text)
        units = told[3] - case.base.version
        self.assertGreaterEqual(position, ends[units])
        self.assertLessEqual(position, begins[units])
        expected = case.expected(len(case.text), True)
        if status == "done":
            self.assertEqual(told, expected_told(expected))
        elif status == "stopped":
            self.assertEqual((told[3], expected.status), (expected.state.version, "stopped"))
        self.assertEqual(told[1:3] + told[0][2:], prefix_told(case, units))

    def finish(self, case, disk):
        """A new loader is fed from the position on; the end is that of the whole load."""
        session = Session(case, disk)
        self.assertEqual(view_told(case, session.disk), expected_told(case.expected(len(case.text), True)))

    def test_every_write_with_every_part(self):
        """Of short loads: each write, each part of each file; the store is whole, and most of them go on."""
        for seed in range(25):
            case = Case(f"short {seed}", 4)
            session = Session(case, case.disk)
            for many in range(len(session.disk.writes()) + 1):
                for disk in losses(session.disk_at(many)):
                    with self.subTest(seed=seed, many=many):
                        self.check_loss(case, session, many, disk)
                        if case.draw.random() < 0.05:
                            self.finish(case, disk)

    def test_every_write(self):
        """Of longer loads: with a few of the parts kept."""
        for seed in range(25):
            case = Case(f"long {seed}", 25)
            session = Session(case, case.disk)
            for many in range(len(session.disk.writes()) + 1):
                for disk in losses(session.disk_at(many), True):
                    with self.subTest(seed=seed, many=many):
                        self.check_loss(case, session, many, disk)
                if case.draw.random() < 0.2:
                    self.finish(case, case.draw.choice(losses(session.disk_at(many), True)))

    def test_again_and_again(self):
        """A loss at a drawn write of what a new loader does, many times; each time it goes on a little."""
        rounds = 0
        for seed in range(80):
            case = Case(f"again {seed}", 25)
            disk = case.disk
            for _ in range(12):
                session = Session(case, disk)
                writes = len(session.disk.writes())
                many = min(writes, case.draw.choice((0, 1, 2, 3, 4, 5, 8, 12)))
                lost = case.draw.choice(losses(session.disk_at(many), True))
                self.check_loss(case, session, many, lost)
                self.assertGreaterEqual(view(lost, case.schema).position * (view(disk, case.schema).name == case.name),
                                        view(disk, case.schema).position * (view(disk, case.schema).name == case.name))
                disk = lost
                rounds += 1
                if view(disk, case.schema).status in ("done", "stopped") and many == writes:
                    break
            if view(disk, case.schema).status != "stopped":
                self.finish(case, disk)
        self.assertGreater(rounds, 400)

    def test_stopped_and_opened_again(self):
        """With greater and greater limits, fed from the position on, with losses in between."""
        opened = 0
        for seed in range(60):
            case = Case(f"limits {seed}", 40, most_rejects=0, size=2)
            disk = case.disk
            while True:
                session = Session(case, disk)
                self.assertEqual(view_told(case, session.disk), expected_told(case.expected(len(case.text), True)))
                disk = case.draw.choice(losses(session.disk_at(len(session.disk.writes())), True))
                if session.loader.status == "done":
                    break
                opened += 1
                limit = case.draw.choice((case.job.most_rejects, case.job.most_rejects + case.draw.randint(1, 3), None))
                case.job = with_settings(case.job, most_rejects=limit)
        self.assertGreater(opened, 100)

    def test_losses_while_a_load_is_given_up(self):
        for seed in range(40):
            case = Case(f"left {seed}", 15)
            session = Session(case, case.disk)
            many = case.draw.randrange(1, len(session.disk.writes()) + 1)
            disk = session.disk_at(many).lost()
            before = view(disk, case.schema)
            if before.name != case.name or before.status == "done":
                continue
            after = replayed(disk, (), ROOM)
            self.assertIsNone(give_up(after, case.schema, case.name))
            told = view_told(case, disk)
            left = (("left",) + told[0][1:],) + told[1:]
            for at in range(len(after.writes()) + 1):
                for lost in losses(replayed(disk, after.writes()[:at], ROOM)):
                    self.assertIn(view_told(case, lost), (told, left))
            self.assertEqual(view_told(case, after.lost()), left)


def prefix_told(case, units):
    """Rows, numbers, counts, rejects and discards behind so many units."""
    state = copy.deepcopy(case.base)
    expected = Prefix(state, case.job, case.text, units)
    return ({title: state.rows(title) for title in state.schema.titles},
            [state.numbers.get(sequence, 0) for sequence in SEQUENCES], expected.words, expected.rejects,
            expected.discards)


class BoundTest(unittest.TestCase):
    """11.8."""

    def weight(self, case, disk):
        seen = view(disk, case.schema)
        header = header_of(case.job, case.text) if seen.name == case.name and seen.position > 0 else ""
        return weight_of(case.schema, rows_of(case.schema, seen.database), seen.rejects, seen.discards, header)

    def check_bounds(self, case, session):
        writes = session.disk.writes()
        position = view(session.before, case.schema).position
        for before, behind, fed, _ in session.calls:
            disk = session.disk_at(before)
            heaviest = self.weight(case, disk)
            disks = []
            for write in writes[before:behind]:
                disk = replayed(disk, (write,), ROOM)
                disks.append(disk)
                heaviest = max(heaviest, self.weight(case, disk))
            waiting = 0 if fed is None else fed - position
            for each in disks:
                self.assertLessEqual(characters(each) + len(each.head), 6 * heaviest + 6000 + 10 * waiting)
            self.assertLessEqual(characters(disk), 3 * self.weight(case, disk) + 2000)
            position = view(disk, case.schema).position

    def test_drawn_loads(self):
        for seed in range(40):
            case = Case(f"bounds {seed}", 40)
            with self.subTest(seed=seed):
                self.check_bounds(case, Session(case, case.disk))

    def test_behind_losses(self):
        """Also for what a loss left behind."""
        for seed in range(40):
            case = Case(f"left over {seed}", 25)
            session = Session(case, case.disk)
            many = case.draw.randrange(len(session.disk.writes()) + 1)
            for disk in losses(session.disk_at(many), True):
                again = Session(case, disk)
                with self.subTest(seed=seed, many=many):
                    self.check_bounds(case, again)

    def test_rooms(self):
        """With as much room as it took NoRoom never comes; with one character less it does, and a new one goes on."""
        for seed in range(60):
            case = Case(f"room {seed}", 20)
            writes = self.play(case, replayed(case.disk, (), ROOM)).writes()
            disks = [replayed(case.disk, writes[:many], ROOM) for many in range(len(writes) + 1)]
            most = max(characters(disk) + len(disk.head) for disk in disks)
            least = characters(case.disk) + len(case.disk.head)
            if most == least:
                continue
            enough = self.play(case, Disk(case.disk.files(), head=case.disk.head, room=most))
            self.assertEqual(view_told(case, enough), expected_told(case.expected(len(case.text), True)))
            for room in (most - 1, max(least, most // 2)):
                disk = Disk(case.disk.files(), head=case.disk.head, room=room)
                before = view_told(case, disk)
                with self.assertRaises(NoRoom):
                    self.play(case, disk)
                told = view_told(case, disk)
                if view(disk, case.schema).name == case.name:
                    self.assertEqual(told[1:3] + told[0][2:], prefix_told(case, told[3] - case.base.version))
                else:
                    self.assertEqual(told, before)
                for more in (disk, disk.lost()):
                    roomy = Disk(more.files(), head=more.head, room=ROOM)
                    again = Session(case, roomy)
                    self.assertEqual(view_told(case, again.disk), expected_told(case.expected(len(case.text), True)))

    def play(self, case, disk):
        """The whole load; when NoRoom comes, the loader takes no more."""
        loader = Loader(disk, case.schema, case.job, case.name)
        try:
            loader.feed(case.text)
            if loader.status == "open":
                loader.finish()
        except NoRoom:
            for call in (lambda: loader.feed(""), loader.finish):
                with self.assertRaises(Over) as told:
                    call()
                self.assertEqual(told.exception.word, "failed")
            raise
        return disk


if __name__ == "__main__":
    unittest.main()
