"""The records of a text that are taken, as far as no row of a table is needed to tell what they do."""

from bulkload.basics import check_text
from bulkload.errors import Unfit
from bulkload.expressions import is_met, text_of
from bulkload.formats import records
from bulkload.jobs import check_fields, check_job
from bulkload.values import value_from


class Route:
    """A target with its table, and its columns with their expressions in the order of the table's columns."""

    def __init__(self, schema, target):
        named = dict(target.columns)
        self.table = schema.table_of(target.place)
        self.rule = target.rule
        self.condition = target.condition
        self.columns = [(column, named[column.title]) for column in self.table.columns if column.title in named]


class Taken:
    """A record that is taken: the values that it gives, its key, and the reason for which it is rejected so far.

    The route is None if no target takes the record, and place is the title of the table, or None.
    """

    def __init__(self, number, line, text, route):
        self.number = number
        self.line = line
        self.text = text
        self.route = route
        self.place = None if route is None else route.table.title
        self.given = {}
        self.key = None
        self.reason = None

    def is_removal(self):
        """Whether the record is a unit of its own."""
        return self.route is not None and self.route.rule == "remove"


def routes_of(schema, job):
    """The routes of a job, one for each target."""
    return [Route(schema, target) for target in job.targets]


def route_for(routes, fields, number):
    """The first route whose condition holds, or None; fields is a dict from names to fields."""
    for route in routes:
        if is_met(route.condition, fields, number):
            return route
    return None


def convert_columns(taken, fields):
    """Gives a record its values, and as its reason the first column whose text is not of the kind."""
    for column, expression in taken.route.columns:
        text = text_of(expression, fields, taken.number)
        if text is not None:
            try:
                taken.given[column.title] = value_from(column.kind, text)
            except Unfit as error:
                if taken.reason is None:
                    taken.reason = ("value", column.title, error.cause)


def make_key(taken):
    """Gives a record its key if it can be made, and as its reason the first missing column of it."""
    titles = taken.route.table.key
    missing = [title for title in titles if title not in taken.given]
    if len(missing) == 0:
        taken.key = tuple([taken.given[title] for title in titles])
    elif taken.reason is None:
        taken.reason = ("missing", missing[0])


def taken_from(routes, names, record):
    """What is taken of a record (number, line, text, fields, fault) with fields of these names."""
    number, line, text, fields, fault = record
    if fault is not None:
        taken = Taken(number, line, text, None)
        taken.reason = ("format", fault)
        return taken
    known = dict(zip(names, fields))
    taken = Taken(number, line, text, route_for(routes, known, number))
    if taken.route is not None:
        convert_columns(taken, known)
        make_key(taken)
    return taken


def without_target(taken):
    """The record as if no target took it."""
    return Taken(taken.number, taken.line, taken.text, None)


def is_last_or_behind(job, number):
    """Whether the record with this number is the last one that is taken, or stands behind it."""
    return job.at_most is not None and number >= job.skip_first + job.at_most


def is_taken(job, number):
    """Whether the record with this number is taken, if there is one."""
    return number > job.skip_first and (job.at_most is None or number <= job.skip_first + job.at_most)


def names_among(job, found):
    """The names by which the records of a text are told; found has all, that of a header included."""
    if job.form.names is not None:
        return job.form.names
    names = found[0][3]
    check_fields(job, names)
    return names


def taken_in(schema, job, text):
    """The records of a text that are taken; raises the errors of a load."""
    check_text(text)
    check_job(schema, job)
    found = records(job.form, text)
    names = names_among(job, found)
    routes = routes_of(schema, job)
    return [taken_from(routes, names, record) for record in found if is_taken(job, record[0])]
