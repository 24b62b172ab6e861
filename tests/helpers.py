"""What several test files use."""

import bulkload.errors as errors
from bulkload.formats import Delimited, Fixed

FIXED = Fixed((("a", 2, "left", "0"), ("b", 3, "right", " ")))


def nested(make, depth):
    """A value that is nested in itself, for example a tuple in a tuple."""
    value = make(())
    for _ in range(depth):
        value = make((value,))
    return value


class Equal:
    """Equal to everything: what is only compared takes it for right."""

    def __eq__(self, other):
        return True

    def __ne__(self, other):
        return False

    __hash__ = None


# Values of many sorts; none is a kind, a format, a summary or a string.
ODD = (
    None, True, False, 0, 1, -1, 10 ** 30, -10 ** 5000, b"", b"a", [], ["a"], {}, {"a": 1}, set(), {"a"},
    frozenset(), (), (None,), (1,), ("a",), ((),), object(), Equal(), len, Delimited, errors.BadKind,
    errors.BadKind(1), errors.BadSummary(), [Delimited()], (Delimited(), FIXED), range(3),
    nested(tuple, 59), nested(list, 59),
)
FORMS = (Delimited(), Delimited(names=("a", "b")), Delimited(mark=";", quote="'", null="-"), FIXED)
STRINGS = ("", "a", "int", "yes", "\u00e9", "50 \u0025", "\t", "a" * 20001)
ODDITIES = ODD + STRINGS + FORMS


def caught(call, *values, **named):
    """The words of the error that a call raises: its class's name and its fields."""
    try:
        result = call(*values, **named)
    except errors.BulkError as error:
        return (error.__class__.__name__,) + tuple(vars(error).values())
    raise AssertionError("no error, but " + repr(result)[:200])


def every_text(signs, most):
    """All texts of at most so many of these signs."""
    layer = [""]
    for _ in range(most):
        yield from layer
        layer = [text + sign for text in layer for sign in signs]
    yield from layer
