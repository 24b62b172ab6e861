"""Pieces of a text that are looked at alone and joined in any order."""

from bulkload.basics import check_text, is_plain
from bulkload.errors import BadSummary
from bulkload.formats import check_form, records_of_cut


def summary(form, piece):
    """The summary (turns, outside, inside) of a piece."""
    check_form(form)
    check_text(piece)
    return (form.turns_in(piece), form.cut_piece(piece, False), form.cut_piece(piece, True))


def is_cut(value):
    """Whether a value of any sort is a tuple of strings of which each but the last ends with a line feed."""
    if not isinstance(value, tuple) or len(value) == 0:
        return False
    if not all([isinstance(text, str) for text in value]):
        return False
    return all([text.endswith("\n") for text in value[:-1]])


def is_summary(value):
    """Whether a value of any sort has the form of a summary."""
    if not isinstance(value, tuple) or len(value) != 3:
        return False
    turns, outside, inside = value
    if not isinstance(turns, bool) or not is_cut(outside) or not is_cut(inside):
        return False
    piece = "".join(outside)
    return is_plain(piece) and piece == "".join(inside)


def check_summary(value):
    if not is_summary(value):
        raise BadSummary()


def joined_cuts(first, second):
    """The cut of two pieces of which the second one begins as its cut says."""
    return first[:-1] + (first[-1] + second[0],) + second[1:]


def joined(one, other):
    """The summary of two pieces, one behind the other, of their summaries."""
    check_summary(one)
    check_summary(other)
    one_turns, one_outside, one_inside = one
    other_turns, other_outside, other_inside = other
    if one_turns:
        return (not other_turns, joined_cuts(one_outside, other_inside), joined_cuts(one_inside, other_outside))
    return (other_turns, joined_cuts(one_outside, other_outside), joined_cuts(one_inside, other_inside))


def records_in(form, whole):
    """The records of the text whose summary is given."""
    check_form(form)
    check_summary(whole)
    return records_of_cut(form, whole[1])
