"""Kinds and their values, and how values are converted from texts and shown as texts."""

from bulkload.basics import are_different, check_text, is_text, is_whole
from bulkload.days import LAST_DAY, day_with_number, is_day, number_of_day
from bulkload.errors import BadKind, BadValue, Unfit

MOST_DIGITS = 18
GREATEST = 999_999_999_999_999_999
MOST_PLACES = 9
MOST_IN_TEXT = 1000
MOST_WORDS = 20
MOST_IN_WORD = 20


def are_bounds(low, high):
    """Whether two values of any sort are integers of at most 18 digits, low <= high."""
    return is_whole(low, -GREATEST, GREATEST) and is_whole(high, low, GREATEST)


def is_word(value):
    return is_text(value) and 1 <= len(value) <= MOST_IN_WORD


def are_words(value):
    """Whether a value of any sort is a tuple of 1 to 20 different words."""
    if not isinstance(value, tuple) or not 1 <= len(value) <= MOST_WORDS:
        return False
    return all([is_word(word) for word in value]) and are_different(value)


def is_kind(value):
    """Whether a value of any sort is a kind."""
    if not isinstance(value, tuple) or len(value) == 0 or not isinstance(value[0], str):
        return False
    word = value[0]
    if word == "int":
        return len(value) == 3 and are_bounds(value[1], value[2])
    if word == "decimal":
        return len(value) == 4 and are_bounds(value[1], value[2]) and is_whole(value[3], 1, MOST_PLACES)
    if word == "text":
        return len(value) == 2 and is_whole(value[1], 1, MOST_IN_TEXT)
    if word == "choice":
        return len(value) == 2 and are_words(value[1])
    return len(value) == 1 and word in ("truth", "date")


def check_kind(kind):
    if not is_kind(kind):
        raise BadKind(kind)


def is_of_kind(kind, value):
    """Whether a value of any sort is one of a kind that was checked."""
    word = kind[0]
    if word in ("int", "decimal"):
        return is_whole(value, kind[1], kind[2])
    if word == "text":
        return is_text(value) and len(value) <= kind[1]
    if word == "choice":
        return isinstance(value, str) and value in kind[1]
    if word == "truth":
        return isinstance(value, bool)
    return is_whole(value, 1, LAST_DAY)


def is_value(kind, value):
    """Whether a value of any sort is one of the kind."""
    check_kind(kind)
    return is_of_kind(kind, value)


def places_of(kind):
    """How many digits stand behind the point at most; 0 where none can stand there."""
    return kind[3] if kind[0] == "decimal" else 0


def are_alike(one, other):
    """Whether two kinds are alike."""
    return one[0] == other[0] and places_of(one) == places_of(other)


def convert_number(kind, text):
    """The value of a text for an int or a decimal kind."""
    places = places_of(kind)
    minus = text.startswith("-")
    front, point, behind = text[1 if minus else 0:].partition(".")
    if not front.isdigit():
        raise Unfit("number")
    if point == "." and (places == 0 or not behind.isdigit()):
        raise Unfit("number")
    if len(behind) > places:
        raise Unfit("places")
    if len(front) + len(behind) > MOST_DIGITS:
        raise Unfit("range")
    size = int(front + behind.ljust(places, "0"))
    value = -size if minus else size
    if not kind[1] <= value <= kind[2]:
        raise Unfit("range")
    return value


def convert_text(kind, text):
    if len(text) > kind[1]:
        raise Unfit("length")
    return text


def convert_choice(kind, text):
    if text not in kind[1]:
        raise Unfit("choice")
    return text


def convert_truth(text):
    if text not in ("yes", "no"):
        raise Unfit("truth")
    return text == "yes"


def convert_date(text):
    """The number of the day that a text tells."""
    if len(text) != 10 or text[4] != "-" or text[7] != "-":
        raise Unfit("date")
    digits = text[:4] + text[5:7] + text[8:]
    if not digits.isdigit():
        raise Unfit("date")
    year, month, day = int(digits[:4]), int(digits[4:6]), int(digits[6:])
    if not is_day(year, month, day):
        raise Unfit("date")
    return number_of_day(year, month, day)


def value_from(kind, text):
    """The value to which a text is converted; the kind and the text were checked."""
    word = kind[0]
    if word in ("int", "decimal"):
        return convert_number(kind, text)
    if word == "text":
        return convert_text(kind, text)
    if word == "choice":
        return convert_choice(kind, text)
    if word == "truth":
        return convert_truth(text)
    return convert_date(text)


def convert(kind, text):
    """The value of the kind to which a text is converted."""
    check_kind(kind)
    check_text(text)
    return value_from(kind, text)


def show_number(value, places):
    """The shortest text of an integer that stands for value divided by 10 ** places."""
    # A digit stands in front of the point, so 5 with two places is 005.
    digits = str(abs(value)).zfill(places + 1)
    front = digits[:len(digits) - places]
    behind = digits[len(digits) - places:].rstrip("0")
    minus = "-" if value < 0 else ""
    return minus + front + ("." + behind if behind != "" else "")


def show_date(value):
    year, month, day = day_with_number(value)
    return f"{year:04d}-{month:02d}-{day:02d}"


def shown_text(kind, value):
    """The text as which a value is shown; the kind and the value were checked."""
    word = kind[0]
    if word in ("int", "decimal"):
        return show_number(value, places_of(kind))
    if word == "truth":
        return "yes" if value else "no"
    if word == "date":
        return show_date(value)
    return value


def show(kind, value):
    """The shortest text that is converted to a value of the kind."""
    check_kind(kind)
    if not is_of_kind(kind, value):
        raise BadValue(value)
    return shown_text(kind, value)
