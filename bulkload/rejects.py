"""Rejects written as a text, read back, and the source that is loaded once more."""

from bulkload.basics import is_text, is_title, is_whole
from bulkload.errors import BadRejects, BadText

MOST_IN_REASON = 3
GREATEST_NUMBER = 20000
MOST_DIGITS = 5


def is_element(value):
    """Whether a value of any sort can stand in a reason behind its title."""
    return is_title(value) or is_whole(value, 0, GREATEST_NUMBER)


def is_reason(value):
    """Whether a value of any sort is the reason of a reject."""
    if not isinstance(value, tuple) or not 1 <= len(value) <= MOST_IN_REASON:
        return False
    return is_title(value[0]) and all([is_element(element) for element in value])


def is_reject(value):
    """Whether a value of any sort is a reject."""
    if not isinstance(value, tuple) or len(value) != 4:
        return False
    number, line, reason, text = value
    if not is_whole(number, 1, GREATEST_NUMBER) or not is_whole(line, 1, GREATEST_NUMBER):
        return False
    return is_reason(reason) and is_text(text) and len(text) > 0


def check_rejects(rejects):
    """Raises BadRejects for what is no tuple of rejects with ascending numbers."""
    if not isinstance(rejects, tuple):
        raise BadRejects(None)
    before = 0
    for index in range(len(rejects)):
        if not is_reject(rejects[index]) or rejects[index][0] <= before:
            raise BadRejects(index)
        before = rejects[index][0]


def ended(text):
    """A text with a line feed at its end."""
    return text if text.endswith("\n") else text + "\n"


def written_reject(reject):
    """The row of a reject, and its text behind it."""
    number, line, reason, text = reject
    words = ["reject", str(number), str(line), str(len(text))] + [str(element) for element in reason]
    return " ".join(words) + "\n" + ended(text)


def write_rejects(rejects):
    """The text of rejects."""
    check_rejects(rejects)
    return "".join([written_reject(reject) for reject in rejects])


def source_of(rejects):
    """The texts of rejects one behind the other, each with a line feed at its end."""
    check_rejects(rejects)
    return "".join([ended(reject[3]) for reject in rejects])


def is_numeral(word):
    """Whether a string is written as integers up to 20,000 are, without zeros in front."""
    if not word.isascii() or not word.isdigit() or len(word) > MOST_DIGITS:
        return False
    return str(int(word)) == word


def element_of(word):
    """The element of a reason that is written as this word, or the word if there is none."""
    return int(word) if is_numeral(word) else word


def reject_at(string, at):
    """The reject that is written at an index of a string, or None if there is none that is written so."""
    feed = string.find("\n", at)
    parts = [] if feed < 0 else string[at:feed].split(" ")
    if len(parts) < 5 or parts[0] != "reject" or not all([is_numeral(part) for part in parts[1:4]]):
        return None
    number, line, length = [int(part) for part in parts[1:4]]
    reason = tuple([element_of(part) for part in parts[4:]])
    reject = (number, line, reason, string[feed + 1:feed + 1 + length])
    if not is_reject(reject) or not string.startswith(written_reject(reject), at):
        return None
    return reject


def read_rejects(string):
    """The rejects that are written as a string."""
    if not isinstance(string, str):
        raise BadText(None)
    found = []
    before = 0
    at = 0
    while at < len(string):
        reject = reject_at(string, at)
        if reject is None or reject[0] <= before:
            raise BadText(at)
        found.append(reject)
        before = reject[0]
        at += len(written_reject(reject))
    return tuple(found)
