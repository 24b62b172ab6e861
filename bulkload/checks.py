"""The conditions of checks: which values are some for a table, and what their truths are made of."""

from bulkload.parts import are_parts_right, has_word
from bulkload.values import are_alike, is_value


def is_side(value, word):
    """Whether a value of any sort is a pair with this word in front."""
    return has_word(value) and len(value) == 2 and value[0] == word


def is_column_side(value, columns):
    """Whether a value of any sort is ("column", title) with the title of one of the columns."""
    return is_side(value, "column") and isinstance(value[1], str) and value[1] in columns


def is_value_side(value, kind):
    """Whether a value of any sort is ("value", value) with a value of the kind."""
    return is_side(value, "value") and is_value(kind, value[1])


def are_sides(one, other, columns):
    """Whether two values of any sort can be compared: both columns, or a column and a value."""
    if is_column_side(one, columns):
        kind = columns[one[1]].kind
        if is_column_side(other, columns):
            return are_alike(kind, columns[other[1]].kind)
        return is_value_side(other, kind)
    return is_column_side(other, columns) and is_value_side(one, columns[other[1]].kind)


def conditions_in(condition, columns):
    """The conditions that stand directly in a condition of a check, or None if it is not right in itself."""
    if not has_word(condition):
        return None
    word = condition[0]
    many = len(condition) - 1
    if word == "not" and many == 1 or word in ("both", "either") and many == 2:
        return list(condition[1:])
    if word == "missing" and many == 1 and is_column_side(condition[1], columns):
        return []
    if word in ("less", "same") and many == 2 and are_sides(condition[1], condition[2], columns):
        return []
    return None


def is_check_condition(value, columns):
    """Whether a value of any sort is a condition of a check; columns is the dict of those that may stand in it."""
    return are_parts_right(value, conditions_in, columns)


def side_value(side, row):
    """The value of a side for a dict from column titles to values, None for a missing one."""
    return row.get(side[1]) if side[0] == "column" else side[1]


def opposite(truth):
    """The truth of what is true if a condition with this truth is false, and false if it is true."""
    return None if truth is None else not truth


def together(one, other):
    """The truth of two conditions together, of their truths."""
    if one is False or other is False:
        return False
    return None if one is None or other is None else True


def compared(word, one, other):
    """The truth of less or same for two values."""
    if one is None or other is None:
        return None
    return one < other if word == "less" else one == other
