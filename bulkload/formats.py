"""Formats, the records of a text, and rows written as a text."""

from bulkload.basics import (MOST_CHARACTERS, MOST_NAMES, are_different, are_names, check_text, is_sign, is_text,
                             is_title, is_whole)
from bulkload.errors import BadFormat, BadHeader, BadRow, BadText
from bulkload.quotes import cut_at_feeds, field_of_part, is_right_part, part_of_field, parts_between

MOST_IN_NULL = 20
MOST_WIDTH = 200


def is_null(value, mark, quote):
    """Whether a value of any sort is a null mark beside this mark and this quote sign."""
    if not is_text(value) or len(value) > MOST_IN_NULL:
        return False
    return mark not in value and quote not in value and "\n" not in value


def wrong_setting(mark, quote, null, names):
    """The name of the first wrong setting of a Delimited format, or None."""
    if not is_sign(mark):
        return "mark"
    if not is_sign(quote) or quote == mark:
        return "quote"
    if not is_null(null, mark, quote):
        return "null"
    if names is not None and not are_names(names):
        return "names"
    return None


class Delimited:
    """A format with fields between marks; without names a text begins with a header."""

    def __init__(self, *, mark=",", quote="\"", null="", names=None):
        wrong = wrong_setting(mark, quote, null, names)
        if wrong is not None:
            raise BadFormat(wrong)
        self.mark = mark
        self.quote = quote
        self.null = null
        self.names = names

    def __eq__(self, other):
        return (isinstance(other, Delimited) and self.mark == other.mark and self.quote == other.quote
                and self.null == other.null and self.names == other.names)

    def with_names(self, names):
        """The same format with these names."""
        if not are_names(names):
            raise BadFormat("names")
        return Delimited(mark=self.mark, quote=self.quote, null=self.null, names=names)

    def turns_in(self, piece):
        """Whether a piece that begins outside ends inside, and the other way round."""
        return piece.count(self.quote) % 2 == 1

    def cut_piece(self, piece, inside):
        return cut_at_feeds(piece, self.quote, inside)

    def fields_in(self, record):
        """The fields of a record, however many, or None if one of its parts is not right."""
        parts = parts_between(record.removesuffix("\n"), self.mark, self.quote)
        if not all([is_right_part(part, self.quote) for part in parts]):
            return None
        return tuple([field_of_part(part, self.quote, self.null) for part in parts])

    def told(self, record, many):
        """The fields of a record and its fault, one of them None; there are so many names."""
        fields = self.fields_in(record)
        if fields is None:
            return (None, "quote")
        if len(fields) != many:
            return (None, "fields")
        return (fields, None)

    def can_write(self, index, field):
        """Whether a text can be written as the field with this index."""
        return True

    def written_row(self, fields):
        parts = [part_of_field(field, self.mark, self.quote, self.null) for field in fields]
        return self.mark.join(parts) + "\n"


def is_column(value):
    """Whether a value of any sort is a column of a Fixed format."""
    if not isinstance(value, tuple) or len(value) != 4:
        return False
    title, width, side, pad = value
    if not is_title(title) or not is_whole(width, 1, MOST_WIDTH):
        return False
    return isinstance(side, str) and side in ("left", "right") and is_sign(pad)


def check_columns(columns):
    if not isinstance(columns, tuple) or not 1 <= len(columns) <= MOST_NAMES:
        raise BadFormat(None)
    titles = []
    for index in range(len(columns)):
        if not is_column(columns[index]) or columns[index][0] in titles:
            raise BadFormat(index)
        titles.append(columns[index][0])


def without_pad(text, side, pad):
    """The field of a text that fills the width, None for a missing one."""
    field = text.lstrip(pad) if side == "left" else text.rstrip(pad)
    return None if field == "" else field


def with_pad(field, width, side, pad):
    """The text as which a field is written."""
    if field is None:
        return pad * width
    return field.rjust(width, pad) if side == "left" else field.ljust(width, pad)


class Fixed:
    """A format with fields of fixed widths."""

    def __init__(self, columns):
        check_columns(columns)
        self.columns = columns
        self.names = tuple([column[0] for column in columns])
        self.width = sum([column[1] for column in columns])

    def __eq__(self, other):
        return isinstance(other, Fixed) and self.columns == other.columns

    def turns_in(self, piece):
        """Without quote signs no piece does."""
        return False

    def cut_piece(self, piece, inside):
        """Without quote signs both cuts of a piece are those from outside."""
        return cut_at_feeds(piece, "", False)

    def told(self, record, many):
        """The fields of a record and its fault, one of them None."""
        line = record.removesuffix("\n")
        if len(line) != self.width:
            return (None, "width")
        fields = []
        begin = 0
        for _, width, side, pad in self.columns:
            fields.append(without_pad(line[begin:begin + width], side, pad))
            begin += width
        return (tuple(fields), None)

    def can_write(self, index, field):
        """Whether a text can be written as the field with this index."""
        _, width, side, pad = self.columns[index]
        if not 1 <= len(field) <= width or "\n" in field:
            return False
        outer = field[0] if side == "left" else field[-1]
        return outer != pad

    def written_row(self, fields):
        texts = [with_pad(field, width, side, pad)
                 for field, (_, width, side, pad) in zip(fields, self.columns)]
        return "".join(texts) + "\n"


def check_form(form):
    if not isinstance(form, (Delimited, Fixed)):
        raise BadFormat(None)


def record_texts(cut):
    """The texts of the records of a text, of its cut from outside."""
    return cut[:-1] if cut[-1] == "" else cut


def header_names(form, texts):
    """The names that the first of the records' texts gives."""
    if len(texts) == 0:
        raise BadHeader("none")
    fields = form.fields_in(texts[0])
    if fields is None:
        raise BadHeader("quote")
    if len(fields) > MOST_NAMES:
        raise BadHeader("many")
    if not all([is_title(field) for field in fields]):
        raise BadHeader("title")
    if not are_different(fields):
        raise BadHeader("twice")
    return fields


def names_in(form, texts):
    """The names by which records with these texts are told."""
    return header_names(form, texts) if form.names is None else form.names


def records_of_cut(form, cut):
    """The records of a text, of its cut from outside."""
    texts = record_texts(cut)
    many = len(names_in(form, texts))
    number = 0 if form.names is None else 1
    line = 1
    found = []
    for text in texts:
        fields, fault = form.told(text, many)
        found.append((number, line, text, fields, fault))
        number += 1
        line += text.count("\n")
    return found


def records(form, text):
    """A list of the tuples (number, line, text, fields, fault) of the records of a text."""
    check_form(form)
    check_text(text)
    return records_of_cut(form, form.cut_piece(text, False))


def names_of(form, text):
    """The names by which the records of a text are told."""
    check_form(form)
    check_text(text)
    return names_in(form, record_texts(form.cut_piece(text, False)))


def names_to_write(form, names):
    """The names of the rows to be written; names is given just for a header."""
    if form.names is None:
        if not are_names(names):
            raise BadFormat("names")
        return names
    if names is not None:
        raise BadFormat("names")
    return form.names


def is_writable(form, index, field):
    """Whether a value of any sort can be written as the field with this index."""
    return field is None or is_text(field) and form.can_write(index, field)


def check_row(form, many, number, row):
    if not isinstance(row, tuple) or len(row) != many:
        raise BadRow(number, None)
    for index in range(many):
        if not is_writable(form, index, row[index]):
            raise BadRow(number, index)


def written(form, rows, *, names=None):
    """The text whose records are the rows, behind a header if the format has one."""
    check_form(form)
    many = len(names_to_write(form, names))
    if not isinstance(rows, tuple):
        raise BadRow(None, None)
    for number in range(len(rows)):
        check_row(form, many, number, rows[number])
    header = [] if names is None else [form.written_row(names)]
    text = "".join(header + [form.written_row(row) for row in rows])
    if len(text) > MOST_CHARACTERS:
        raise BadText(MOST_CHARACTERS)
    return text
