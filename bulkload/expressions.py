"""Expressions and conditions: which values are some, and what they give for a record."""

from bulkload.basics import MOST_CHARACTERS, are_different, is_text, is_title, is_whole
from bulkload.errors import BadExpression, BadFields, BadNumber, Unfit
from bulkload.parts import are_parts_right, has_word
from bulkload.values import is_kind, value_from

MOST_TOGETHER = 8
MOST_PAIRS = 20
GREATEST_NUMBER = 20000
# The roles of the elements behind each word; behind join and first stand any number of expressions.
EXPRESSIONS = {
    "field": ("title",),
    "const": ("text",),
    "none": (),
    "number": (),
    "trim": ("expression",),
    "upper": ("expression",),
    "lower": ("expression",),
    "cut": ("expression", "count", "count"),
    "map": ("expression", "pairs"),
    "when": ("condition", "expression", "expression"),
}
CONDITIONS = {
    "always": (),
    "is": ("expression", "text"),
    "starts": ("expression", "text"),
    "missing": ("expression",),
    "fits": ("kind", "expression"),
    "not": ("condition",),
    "both": ("condition", "condition"),
    "either": ("condition", "condition"),
}


def roles_behind(role, word, many):
    """The roles of so many elements behind a word, or None if it is no word of a part in this role."""
    if role == "condition":
        return CONDITIONS.get(word)
    if word in ("join", "first"):
        return ("expression",) * many if 1 <= many <= MOST_TOGETHER else None
    return EXPRESSIONS.get(word)


def pairs_behind(role, value):
    """The pairs (role, value) of what stands behind the word, or None if the word or their number is wrong."""
    if not has_word(value):
        return None
    many = len(value) - 1
    roles = roles_behind(role, value[0], many)
    if roles is None or len(roles) != many:
        return None
    return list(zip(roles, value[1:]))


def is_pair(value):
    return isinstance(value, tuple) and len(value) == 2 and is_text(value[0]) and is_text(value[1])


def are_pairs(value):
    """Whether a value of any sort is a tuple of 1 to 20 pairs of texts with different first ones."""
    if not isinstance(value, tuple) or not 1 <= len(value) <= MOST_PAIRS:
        return False
    return all([is_pair(pair) for pair in value]) and are_different([pair[0] for pair in value])


def is_element(role, value, names):
    """Whether a value of any sort can stand as an element in this role, which is not that of a part."""
    if role == "title":
        return is_title(value) and (names is None or value in names)
    if role == "text":
        return is_text(value)
    if role == "count":
        return is_whole(value, 0, MOST_CHARACTERS)
    if role == "pairs":
        return are_pairs(value)
    return is_kind(value)


def parts_in(part, names):
    """The parts, pairs (role, value), that stand directly in a part; None if it is not right in itself."""
    role, value = part
    pairs = pairs_behind(role, value)
    if pairs is None:
        return None
    parts = []
    for element_role, element in pairs:
        if element_role in ("expression", "condition"):
            parts.append((element_role, element))
        elif not is_element(element_role, element, names):
            return None
    return parts


def is_in_role(role, value, names):
    """Whether a value of any sort is an "expression" or a "condition".

    names is the tuple of the names that may stand in it, or None if all titles may.
    """
    return are_parts_right((role, value), parts_in, names)


def is_expression(value, names):
    """Whether a value of any sort is an expression in which these names may stand."""
    return is_in_role("expression", value, names)


def is_condition(value, names):
    """Whether a value of any sort is a condition in which these names may stand."""
    return is_in_role("condition", value, names)


def changed_text(part, text):
    """The text that an expression makes of the text of the expression in it, None for a missing one."""
    word = part[0]
    if word == "trim":
        return text.strip(" ")
    if word == "upper":
        return text.upper()
    if word == "lower":
        return text.lower()
    if word == "cut":
        return text[part[2]:part[2] + part[3]]
    # The pairs of a map are left: its first texts are different.
    return dict(part[2]).get(text)


def first_text(texts):
    """The first of the texts that is not missing, None if all are."""
    for text in texts:
        if text is not None:
            return text
    return None


def joined_text(texts):
    """The texts one behind the other, None if one of them is missing."""
    if None in texts:
        return None
    return "".join(texts)[:MOST_CHARACTERS]


def text_of(part, fields, number):
    """The text that an expression gives, None for a missing one; fields is a dict from names to fields."""
    word = part[0]
    if word == "field":
        return fields[part[1]]
    if word == "const":
        return part[1]
    if word == "none":
        return None
    if word == "number":
        return str(number)
    if word == "first":
        return first_text([text_of(below, fields, number) for below in part[1:]])
    if word == "join":
        return joined_text([text_of(below, fields, number) for below in part[1:]])
    if word == "when":
        return text_of(part[2] if is_met(part[1], fields, number) else part[3], fields, number)
    text = text_of(part[1], fields, number)
    return None if text is None else changed_text(part, text)


def is_fit(kind, text):
    """Whether a text can be converted to a value of the kind."""
    try:
        value_from(kind, text)
    except Unfit:
        return False
    return True


def is_text_as_asked(part, text):
    """Whether a text that is not missing is as the condition asks."""
    word = part[0]
    if word == "is":
        return text == part[2]
    if word == "starts":
        return text.startswith(part[2])
    return is_fit(part[1], text)


def is_met(part, fields, number):
    """Whether a condition holds; fields is a dict from names to fields."""
    word = part[0]
    if word == "always":
        return True
    if word == "not":
        return not is_met(part[1], fields, number)
    if word == "both":
        return is_met(part[1], fields, number) and is_met(part[2], fields, number)
    if word == "either":
        return is_met(part[1], fields, number) or is_met(part[2], fields, number)
    text = text_of(part[2] if word == "fits" else part[1], fields, number)
    if word == "missing":
        return text is None
    return text is not None and is_text_as_asked(part, text)


def check_record(names, fields, number):
    """Raises an error for what are no fields with these names, or no number of a record."""
    if not isinstance(fields, tuple) or len(fields) != len(names):
        raise BadFields(None)
    for index in range(len(fields)):
        if fields[index] is not None and not is_text(fields[index]):
            raise BadFields(index)
    if not is_whole(number, 0, GREATEST_NUMBER):
        raise BadNumber()


def evaluate(expression, names, fields, number):
    """The text that an expression gives for a record, None for a missing one."""
    if not is_expression(expression, names):
        raise BadExpression()
    check_record(names, fields, number)
    return text_of(expression, dict(zip(names, fields)), number)


def holds(condition, names, fields, number):
    """Whether a condition holds for a record."""
    if not is_condition(condition, names):
        raise BadExpression()
    check_record(names, fields, number)
    return is_met(condition, dict(zip(names, fields)), number)


def titles_in(part):
    """The titles of the fields in a part (role, value) that is right, as often as they stand there."""
    if part[1][0] == "field":
        return [part[1][1]]
    titles = []
    for below in parts_in(part, None):
        titles.extend(titles_in(below))
    return titles


def used(value):
    """The titles of the fields that stand in an expression or condition, ascending, each once."""
    for role in ("expression", "condition"):
        if is_in_role(role, value, None):
            return tuple(sorted(set(titles_in((role, value)))))
    raise BadExpression()
