"""Loaders: loads into the store on a disk, which go on behind a loss as if nothing had happened."""

from bulkload.basics import check_text, is_title
from bulkload.errors import BadName, Busy, NoLoad, NoRoom, Over
from bulkload.formats import header_names
from bulkload.jobs import check_fields, check_job
from bulkload.keeping import clean_disk, keep_news, read_store
from bulkload.loads import discard_of, reject_of
from bulkload.runs import do_unit
from bulkload.tables import database_with
from bulkload.taken import is_last_or_behind, is_taken, routes_of, taken_from
from bulkload.units import units_in


def is_going_on(store):
    """Whether the load of a store stands in the way of another one."""
    return store.phase in ("open", "stopped")


class Loader:
    """A load of a text, which is fed in pieces, into the store on a disk."""

    def __init__(self, disk, schema, job, name):
        check_job(schema, job)
        if not is_title(name):
            raise BadName(name)
        store = read_store(disk, schema)
        if is_going_on(store) and store.called != name:
            raise Busy(store.called)
        self._disk = disk
        self._job = job
        self._store = store
        self._routes = routes_of(schema, job)
        self._has_failed = False
        clean_disk(disk, store)
        self._begin(name)
        self._names = job.form.names
        if store.header is not None:
            self._names = header_names(job.form, [store.header])
        # What was fed and is not done: records that are complete, and the beginning of the next one.
        self._queue = []
        self._tail = ""
        self._is_inside = False
        self._number = store.number
        self._feeds = store.feeds
        self._own = len([reject for reject in store.refused if reject[2][0] != "unit"])

    def _begin(self, name):
        """Begins the load with this name, or opens a stopped one again; any other one goes on."""
        store = self._store
        if store.called != name or store.phase == "left":
            store.begin(name, "open")
            keep_news(self._disk, store)
        elif store.phase == "stopped":
            store.phase = "open"
            keep_news(self._disk, store)

    @property
    def position(self):
        """The number of characters up to the end of the last record that is done."""
        return self._store.reached

    @property
    def waiting(self):
        """The number of characters that were fed and are not done."""
        if self._store.phase != "open":
            return 0
        return len(self._tail) + sum([len(record.text) for record in self._queue])

    @property
    def status(self):
        """Whether the load is "open", "stopped", "done" or was "left"."""
        return self._store.phase

    @property
    def counts(self):
        """A new dict from each word to the number of outcomes that have it."""
        return dict(self._store.words)

    @property
    def rejects(self):
        """The rejected records as tuples (number, line, reason, text)."""
        return tuple(self._store.refused)

    @property
    def discards(self):
        """The discarded records as tuples (number, line, text)."""
        return tuple(self._store.passed)

    def _check_open(self):
        """Raises Over for a load that takes no text."""
        if self._has_failed:
            raise Over("failed")
        if self._store.phase != "open":
            raise Over(self._store.phase)

    def feed(self, text):
        """Takes the next piece of the text, and does all units that are complete; returns how many."""
        check_text(text)
        self._check_open()
        form = self._job.form
        cut = form.cut_piece(text, self._is_inside)
        complete = list(cut)
        complete[0] = self._tail + complete[0]
        tail = complete.pop()
        if len(complete) > 0:
            self._read_header(complete)
        self._tail = tail
        self._is_inside = form.turns_in(text) != self._is_inside
        return self._go_on(complete, False)

    def finish(self):
        """Does the rest, as the text is over; returns the counts."""
        self._check_open()
        complete = [self._tail] if self._tail != "" else []
        self._read_header(complete)
        self._go_on(complete, True)
        return self.counts

    def _read_header(self, complete):
        """Takes the names from the first of the complete records, if it is a header."""
        if self._names is None:
            names = header_names(self._job.form, complete)
            check_fields(self._job, names)
            self._names = names

    def _go_on(self, complete, is_over):
        """Takes complete records, and does all units that are complete then; returns how many."""
        try:
            return self._do_units(complete, is_over)
        except NoRoom:
            self._has_failed = True
            raise

    def _do_units(self, complete, is_over):
        """As _go_on, whatever becomes of the disk."""
        store = self._store
        before = store.reached
        behind = self._take(complete)
        is_full = is_over or is_last_or_behind(self._job, self._number)
        units, rest = units_in(self._queue, self._job.size, is_full)
        self._queue = rest
        many = 0
        for unit in units:
            self._do_unit(unit)
            if store.phase == "stopped":
                return many
            many += 1
            before = store.reached
        for number, text in behind:
            store.move(number, text)
        if is_over:
            store.phase = "done"
        if is_over or store.reached > before:
            keep_news(self._disk, store)
        return many

    def _take(self, complete):
        """Takes complete records; returns those (number, text) that are done when all units are."""
        store = self._store
        behind = []
        for text in complete:
            line = self._feeds + 1
            self._feeds += text.count("\n")
            if self._job.form.names is None and store.header is None:
                store.add_header(text)
                store.move(0, text)
            else:
                self._number += 1
                if is_taken(self._job, self._number):
                    self._queue.append(self._taken(line, text))
                elif is_last_or_behind(self._job, self._number):
                    behind.append((self._number, text))
                else:
                    store.move(self._number, text)
        return behind

    def _taken(self, line, text):
        """The record with the last number, as far as no table is needed."""
        fields, fault = self._job.form.told(text, len(self._names))
        return taken_from(self._routes, self._names, (self._number, line, text, fields, fault))

    def _do_unit(self, unit):
        """Does a unit, or stops the load in front of it."""
        store = self._store
        done = do_unit(self._job, store.holdings, unit, self._own)
        if done.stop is not None:
            store.phase = "stopped"
        else:
            for record, outcome in zip(unit, done.answers):
                self._tell(record, outcome)
            store.add_changes()
            self._own += done.own
        keep_news(self._disk, store)

    def _tell(self, record, outcome):
        """Takes an outcome into the store, and moves behind its record."""
        store = self._store
        word = outcome[1]
        store.words[word] += 1
        if word == "rejected":
            store.add_reject(reject_of(record, outcome[4]))
        if word == "discarded":
            store.add_discard(discard_of(record))
        store.move(record.number, record.text)


class View:
    """A store as it was when it was looked at; view makes it."""

    def __init__(self, store, database):
        self._store = store
        self._database = database

    @property
    def name(self):
        """The name of the load, or None."""
        return self._store.called

    @property
    def status(self):
        """Whether the load is "open", "stopped", "done" or was "left", or None."""
        return self._store.phase

    @property
    def position(self):
        """The number of characters up to the end of the last record that is done."""
        return self._store.reached

    @property
    def counts(self):
        """A new dict from each word to the number of outcomes that have it."""
        return dict(self._store.words)

    @property
    def rejects(self):
        """The rejected records as tuples (number, line, reason, text)."""
        return tuple(self._store.refused)

    @property
    def discards(self):
        """The discarded records as tuples (number, line, text)."""
        return tuple(self._store.passed)

    @property
    def database(self):
        """The Database of the store."""
        return self._database


def view(disk, schema):
    """The store on a disk; nothing is written."""
    store = read_store(disk, schema)
    return View(store, database_with(schema, store.holdings.contents))


def give_up(disk, schema, name):
    """Gives up the load with this name, if it is open or stopped."""
    store = read_store(disk, schema)
    if not is_going_on(store) or not isinstance(name, str) or store.called != name:
        raise NoLoad(name)
    clean_disk(disk, store)
    store.phase = "left"
    keep_news(disk, store)
