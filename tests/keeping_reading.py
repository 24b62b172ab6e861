"""A plain reading of 11.5 to 11.8: what a store should be when so much of a text was fed, and how heavy it is."""

from bulkload.disks import Disk
from bulkload.formats import records
from bulkload.units import WORDS
from bulkload.values import show
from tests.plain_reading import cut, discards_of, plain_load, read, rejects_of


def complete_part(form, text, fed, is_over):
    """The records of the first characters of a text that are complete."""
    return text if is_over else "".join(form.cut_piece(text[:fed], False)[:-1])


class Expected:
    """What is done of a text when so many characters were fed, with a load that began on a state."""

    def __init__(self, state, job, text, fed, is_over):
        whole = complete_part(job.form, text, fed, is_over)
        self.state = state
        self.words = dict.fromkeys(WORDS, 0)
        self.rejects = self.discards = ()
        self.units = self.position = 0
        self.status = "done" if is_over else "open"
        # Without a header there are no records, and nothing is done.
        if whole != "" or job.form.names is not None:
            self.load(job, whole, is_over)

    def load(self, job, whole, is_over):
        found = records(job.form, whole)
        begins, at = {}, 0
        for record in found:
            begins[record[0]] = at
            at += len(record[2])
        units = cut(job, read(self.state.schema, job, whole))
        is_full = is_over or job.at_most is not None and found[-1:] and found[-1][0] >= job.skip_first + job.at_most
        pending = []
        if units and not is_full and len(units[-1]) < job.size and not is_removal(units[-1][0]):
            pending = units.pop()
        left = {record.number for record in pending}
        self.units = len(units)
        done = plain_load(self.state, job, whole, limit=len(units))
        if done.status == "stopped":
            self.units = len(done.course) - 1
            self.status = "stopped"
            left = set(done.units[self.units])
        self.position = min([begins[number] for number in left], default=len(whole))
        self.take(done)

    def take(self, done):
        for outcome in done.outcomes:
            self.words[outcome[1]] += 1
        self.rejects, self.discards = rejects_of(done), discards_of(done)


class Prefix(Expected):
    """What is done behind so many units of a text."""

    def __init__(self, state, job, text, units):
        self.words = dict.fromkeys(WORDS, 0)
        self.rejects = self.discards = ()
        if units > 0:
            self.take(plain_load(state, job, text, limit=units))


def is_removal(record):
    return record.target is not None and record.target.rule == "remove"


def store_told(holder):
    """What a View or Loader tells of the load."""
    return (holder.status, holder.position, holder.counts, holder.rejects, holder.discards)


def rows_of(schema, database):
    return {title: database.rows(title) for title in schema.titles}


def weight_of(schema, rows, rejects, discards, header):
    """11.8."""
    weight = 2 * len(header)
    for title in schema.titles:
        kinds = [column.kind for column in schema.table_of(title).columns]
        for row in rows[title]:
            weight += 20 + sum(10 + (0 if value is None else len(show(kind, value))) for kind, value in zip(kinds, row))
    weight += sum(60 + 2 * len(text) for *_, text in rejects + discards)
    sequences = {column.default[1] for title in schema.titles for column in schema.table_of(title).columns
                 if isinstance(column.default, tuple)}
    return weight + 45 * len(sequences)


def replayed(disk, writes, room):
    """A disk like another one, on which some writes were done."""
    new = Disk(disk.files(), head=disk.head, room=room)
    for word, *values in writes:
        getattr(new, word)(*values)
    return new


def characters(disk):
    """How many characters all files have together."""
    return sum(map(len, disk.files().values()))


def header_of(job, text):
    """The text of the header, "" for a format without one."""
    return records(job.form, text)[0][2] if job.form.names is None else ""


def boundaries_of(schema, job, text):
    """For each number of units the least and the greatest position: where the next begins, and where they end."""
    begins, at = {}, 0
    for record in records(job.form, text):
        begins[record[0]] = (at, at + len(record[2]))
        at += len(record[2])
    units = cut(job, read(schema, job, text))
    return ([begins[unit[0].number][0] for unit in units] + [len(text)],
            [0] + [begins[unit[-1].number][1] for unit in units])
