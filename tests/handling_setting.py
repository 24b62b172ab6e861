"""A schema in which each rule of 9.3 and 9.4 can be broken, and short ways to load into it."""

from bulkload.formats import Delimited
from bulkload.jobs import Job, Target
from bulkload.loads import load
from bulkload.schemas import Column, Schema, Table
from bulkload.tables import Database

DIGIT = ("int", 0, 9)
SIGNED = ("int", -9, 9)


def column(title, kind=DIGIT, **settings):
    return Column(title, kind, **settings)


def free(title, kind=DIGIT, **settings):
    return Column(title, kind, nullable=True, **settings)


BASE = Table("base", (column("id"),), ("id",))
# n comes ahead of the key, and must be there; s takes the numbers 1 and 2 of the sequence q.
MAIN = Table("main", (column("n"), column("k"), free("c"), free("r"), free("u"), free("g"), free("w", SIGNED),
                      column("s", ("int", 1, 2), default=("next", "q"))), ("k",),
             uniques=(("u",),), references=((("r",), "base", "now"),),
             checks=(("small", ("less", ("column", "c"), ("value", 5))),),
             tallies=(("sums", ("g",), "w", "total"),))
SUMS = Table("sums", (column("g"), column("total", ("int", 0, 9))), ("g",))
CHILD = Table("child", (column("id"), free("up")), ("id",), references=((("up",), "main", "end"),))
SCHEMA = Schema((BASE, MAIN, SUMS, CHILD))
NAMES = ("n", "k", "c", "r", "u", "g", "w", "s")
FORM = Delimited(names=NAMES)


def target(rule="insert", place="main", titles=NAMES, **settings):
    """A target whose columns are the fields of the same names."""
    return Target(place, tuple((title, ("field", title)) for title in titles), rule=rule, **settings)


def run(database, names, targets, text, **settings):
    """The Result of a load with a format with these names."""
    return load(database, Job(Delimited(names=names), targets, **settings), text)


def put(database, place, *rows):
    """Loads rows, tuples of texts, into a table with all its columns; each must be put."""
    titles = tuple(item.title for item in database.schema.table_of(place).columns)
    text = "".join(",".join(row) + "\n" for row in rows)
    result = run(database, titles, (target("replace", place, titles),), text, size=1)
    if result.counts["rejected"]:
        raise AssertionError(result.outcomes)


def all_rows(database):
    return {title: database.rows(title) for title in database.schema.titles}


def whole(database):
    """All that a database tells, but for its version."""
    return (all_rows(database), [database.last_number(sequence) for sequence in ("q", "s", "t")])


def line(**fields):
    return ",".join(fields.get(name, "") for name in NAMES) + "\n"


def one(database, rule, **fields):
    """The outcome of one record that is loaded into "main" by a rule, from its word on."""
    titles = ("k",) if rule == "remove" else NAMES
    result = load(database, Job(FORM, (target(rule, titles=titles),)), line(**fields))
    return result.outcomes[0][1:]
