"""How marks, quote signs and line feeds cut a text, and how a field stands between them."""


def cut_at_feeds(piece, quote, inside):
    """A cut of a piece: each text but the last ends with a line feed that is outside.

    The quote sign is the empty string for a format without one. inside tells whether the piece
    begins inside.
    """
    found = []
    begin = 0
    for at in range(len(piece)):
        sign = piece[at]
        if sign == quote:
            inside = not inside
        elif sign == "\n" and not inside:
            found.append(piece[begin:at + 1])
            begin = at + 1
    found.append(piece[begin:])
    return tuple(found)


def parts_between(line, mark, quote):
    """What stands between the marks of a line that are outside; the line begins outside."""
    found = []
    begin = 0
    inside = False
    for at in range(len(line)):
        sign = line[at]
        if sign == quote:
            inside = not inside
        elif sign == mark and not inside:
            found.append(line[begin:at])
            begin = at + 1
    found.append(line[begin:])
    return found


def is_right_part(part, quote):
    if quote not in part:
        return True
    if len(part) < 2 or not part.startswith(quote) or not part.endswith(quote):
        return False
    # Without its pairs, a run of an even length is gone, and one of an odd length has one sign left.
    return quote not in part[1:-1].replace(quote + quote, "")


def field_of_part(part, quote, null):
    """The field of a right part, None for a missing one."""
    if quote in part:
        return part[1:-1].replace(quote + quote, quote)
    return None if part == null else part


def part_of_field(field, mark, quote, null):
    """The part as which a field is written."""
    if field is None:
        return null
    if field == null or mark in field or quote in field or "\n" in field:
        return quote + field.replace(quote, quote + quote) + quote
    return field
