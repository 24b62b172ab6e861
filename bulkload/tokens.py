"""Texts of any characters, and missing ones, written one behind the other so that they can be told apart."""


def token(text):
    """How a text, or None, is written."""
    return "-" if text is None else f"{len(text)}:{text}"


def tokens(texts):
    """How texts are written, one behind the other."""
    return "".join([token(text) for text in texts])


def texts_in(string):
    """The texts, some of them None, that are written in a string."""
    found = []
    at = 0
    while at < len(string):
        if string[at] == "-":
            found.append(None)
            at += 1
        else:
            begin = string.find(":", at) + 1
            end = begin + int(string[at:begin - 1])
            found.append(string[begin:end])
            at = end
    return found
