"""Integers, texts and titles: what the general rules say of them."""

from bulkload.errors import BadText

MOST_CHARACTERS = 20000
MOST_NAMES = 30
MOST_IN_TITLE = 20


def is_number(value):
    """Whether a value of any sort is an integer; True and False are none."""
    return isinstance(value, int) and not isinstance(value, bool)


def is_whole(value, low, high):
    """Whether a value of any sort is an integer from low to high."""
    return is_number(value) and low <= value <= high


def is_plain(string):
    """Whether a string has no characters but those of texts, however long it is."""
    # Within ASCII, what is printable is a text's character, but for two: the line feed, which is made
    # a space here, and the percent sign, which is made a line feed.
    plain = string.translate({10: 32, 37: 10})
    return plain.isascii() and plain.isprintable()


def is_text(value):
    """Whether a value of any sort is a text."""
    return isinstance(value, str) and len(value) <= MOST_CHARACTERS and is_plain(value)


def is_sign(value):
    """Whether a value of any sort is one character of a text, and no line feed."""
    return isinstance(value, str) and len(value) == 1 and value != "\n" and is_plain(value)


def first_wrong(string):
    """The index of the first character that is none of a text, in a string that has one."""
    at = 0
    while is_plain(string[at]):
        at += 1
    return at


def check_text(text):
    """Raises BadText for what is no text."""
    if not isinstance(text, str):
        raise BadText(None)
    start = text[:MOST_CHARACTERS]
    if not is_plain(start):
        raise BadText(first_wrong(start))
    if len(text) > MOST_CHARACTERS:
        raise BadText(MOST_CHARACTERS)


def is_small_letter(sign):
    return "a" <= sign <= "z"


def is_in_title(sign):
    return is_small_letter(sign) or "0" <= sign <= "9" or sign == "_"


def is_title(value):
    """Whether a value of any sort is a title."""
    if not isinstance(value, str) or not 1 <= len(value) <= MOST_IN_TITLE:
        return False
    return is_small_letter(value[0]) and all([is_in_title(sign) for sign in value])


def are_different(strings):
    return len(set(strings)) == len(strings)


def are_names(value):
    """Whether a value of any sort is a tuple of 1 to 30 different titles."""
    if not isinstance(value, tuple) or not 1 <= len(value) <= MOST_NAMES:
        return False
    return all([is_title(name) for name in value]) and are_different(value)
