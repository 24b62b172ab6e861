"""What expressions and conditions have in common: a word in front, and parts inside one another."""

MOST_PARTS = 100
MOST_LEVELS = 20


def has_word(value):
    """Whether a value of any sort is a tuple with a string in front."""
    return isinstance(value, tuple) and len(value) > 0 and isinstance(value[0], str)


def level_below(level, parts_of, known):
    """The parts that stand directly in those of a level, or None if one of the level is not right in itself."""
    below = []
    for part in level:
        parts = parts_of(part, known)
        if parts is None:
            return None
        below.extend(parts)
    return below


def are_parts_right(whole, parts_of, known):
    """Whether all parts of a whole are right: at most 100 of them, at most 20 inside one another.

    parts_of(part, known) is the list of the parts that stand directly in a part, or None if the part
    is not right in itself.
    """
    # Level by level, as a small object can have more parts than could ever be counted one by one.
    level = [whole]
    many = 0
    for _ in range(MOST_LEVELS):
        many += len(level)
        if many > MOST_PARTS:
            return False
        level = level_below(level, parts_of, known)
        if level is None:
            return False
        if len(level) == 0:
            return True
    return False
