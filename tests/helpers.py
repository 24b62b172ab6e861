"""What several test files use."""

import bulkload.errors as errors
from bulkload.formats import Delimited, Fixed
from bulkload.jobs import Job, Target
from bulkload.schemas import Column, Schema, Table
from bulkload.tables import Database

FIXED = Fixed((("a", 2, "left", "0"), ("b", 3, "right", " ")))


def nested(make, depth):
    """A value that is nested in itself, for example a tuple in a tuple."""
    value = make(())
    for _ in range(depth):
        value = make((value,))
    return value


class Equal:
    """Equal to everything: what is only compared takes it for right."""

    def __eq__(self, other):
        return True

    def __ne__(self, other):
        return False

    __hash__ = None


COLUMN = Column("k", ("int", 0, 9))
TABLE = Table("t", (COLUMN,), ("k",))
SCHEMA = Schema((TABLE,))
TARGET = Target("t", (("k", ("field", "a")),))
# Objects of classes of the package.
OBJECTS = (Delimited(), FIXED, COLUMN, TABLE, SCHEMA, TARGET, Job(FIXED, (TARGET,)), Database(SCHEMA),
           Database(SCHEMA).snapshot(), errors.BadNumber())
# Values of many sorts; none is a kind, a format, a summary or a string.
ODD = (
    None, True, False, 0, 1, -1, 10 ** 30, -10 ** 5000, b"", b"a", [], ["a"], {}, {"a": 1}, set(), {"a"},
    frozenset(), (), (None,), (1,), ("a",), ((),), object(), Equal(), len, Delimited, errors.BadKind,
    errors.BadKind(1), errors.BadSummary(), [Delimited()], (Delimited(), FIXED), range(3),
    nested(tuple, 59), nested(list, 59),
)
FORMS = (Delimited(), Delimited(names=("a", "b")), Delimited(mark=";", quote="'", null="-"), FIXED)
STRINGS = ("", "a", "int", "yes", "\u00e9", "50 \u0025", "\t", "a" * 20001)
ODDITIES = ODD + STRINGS + FORMS


def caught(call, *values, **named):
    """The words of the error that a call raises: its class's name and its fields."""
    try:
        result = call(*values, **named)
    except errors.BulkError as error:
        return (error.__class__.__name__,) + tuple(vars(error).values())
    raise AssertionError("no error, but " + shown(result))


def paths_in(value):
    """The paths to a value and to all that stands in its tuples: tuples of indexes."""
    yield ()
    if isinstance(value, tuple):
        for index, inner in enumerate(value):
            for path in paths_in(inner):
                yield (index,) + path


def at_path(value, path):
    for index in path:
        value = value[index]
    return value


def with_at_path(value, path, new):
    """A value with another one at the end of a path."""
    if path == ():
        return new
    index = path[0]
    return value[:index] + (with_at_path(value[index], path[1:], new),) + value[index + 1:]


def spoiled(value, news):
    """The value with each of the news at the end of each path, and its tuples as lists, longer and shorter."""
    for path in paths_in(value):
        here = at_path(value, path)
        more = [list(here), here[:-1], here[1:], here + (None,), here + here[-1:]] if isinstance(here, tuple) else []
        for new in list(news) + more:
            yield with_at_path(value, path, new)


def shown(value):
    """What a message shows of a value: the numbers of some odd ones are too long for repr."""
    try:
        return repr(value)[:200]
    except ValueError:
        return "a value with a long number"


def every_text(signs, most):
    """All texts of at most so many of these signs."""
    layer = [""]
    for _ in range(most):
        yield from layer
        layer = [text + sign for text in layer for sign in signs]
    yield from layer
