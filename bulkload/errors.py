"""The errors of the package; the fields of each are the parameters of its constructor."""


class BulkError(ValueError):
    """What all errors of the package are; never raised itself."""


class BadKind(BulkError):
    """A value is no kind."""

    def __init__(self, value):
        self.value = value


class BadValue(BulkError):
    """A value is none of its kind."""

    def __init__(self, value):
        self.value = value


class BadText(BulkError):
    """A value is no text; the index of the first wrong character, or None for no string."""

    def __init__(self, index):
        self.index = index


class Unfit(BulkError):
    """A text is not converted to a value of a kind, for this cause."""

    def __init__(self, cause):
        self.cause = cause


class BadFormat(BulkError):
    """A setting of a format is wrong, or (None) a value is no format."""

    def __init__(self, setting):
        self.setting = setting


class BadHeader(BulkError):
    """The header of a text is refused, for this cause."""

    def __init__(self, cause):
        self.cause = cause


class BadRow(BulkError):
    """A row, or the field with this index in it, cannot be written."""

    def __init__(self, number, index):
        self.number = number
        self.index = index


class BadSummary(BulkError):
    """A value is no summary of a piece."""

    def __init__(self):
        pass


class BadExpression(BulkError):
    """A value is no expression or condition."""

    def __init__(self):
        pass


class BadFields(BulkError):
    """Fields, or the one with this index, are not as they should be."""

    def __init__(self, index):
        self.index = index


class BadNumber(BulkError):
    """A value is no number of a record."""

    def __init__(self):
        pass


class BadRejects(BulkError):
    """Rejects, or the one with this index, are not as they should be."""

    def __init__(self, index):
        self.index = index


class BadSchema(BulkError):
    """A table of a schema breaks this rule."""

    def __init__(self, place, rule):
        self.place = place
        self.rule = rule


class BadJob(BulkError):
    """A job, or one of its targets, breaks this rule."""

    def __init__(self, place, rule):
        self.place = place
        self.rule = rule


class NoTable(BulkError):
    """A schema has no such table."""

    def __init__(self, place):
        self.place = place


class NotRejected(BulkError):
    """The record with this number was not rejected."""

    def __init__(self, number):
        self.number = number


class NoRecord(BulkError):
    """There is no record with this number."""

    def __init__(self, number):
        self.number = number


class BadName(BulkError):
    """A value is no name."""

    def __init__(self, value):
        self.value = value


class NoFile(BulkError):
    """A disk has no such file."""

    def __init__(self, value):
        self.value = value


class BadLength(BulkError):
    """A value is no length that is allowed here."""

    def __init__(self, value):
        self.value = value


class TooMany(BulkError):
    """A disk would have more files than this."""

    def __init__(self, most):
        self.most = most


class NoRoom(BulkError):
    """A disk has no room for this many characters."""

    def __init__(self, characters):
        self.characters = characters


class BadFiles(BulkError):
    """A value does not tell files of a disk."""

    def __init__(self, value):
        self.value = value


class Busy(BulkError):
    """The load with this name is open or stopped."""

    def __init__(self, value):
        self.value = value


class Over(BulkError):
    """The load takes no more text; the word is its status."""

    def __init__(self, word):
        self.word = word


class NoLoad(BulkError):
    """There is no load with this name to give up."""

    def __init__(self, value):
        self.value = value


class BadCuts(BulkError):
    """A value is no tuple of places to cut a text at."""

    def __init__(self, value):
        self.value = value


class BadPart(BulkError):
    """A value is no number of a part."""

    def __init__(self, value):
        self.value = value


class NotReady(BulkError):
    """The next half of the work on this part cannot be done yet."""

    def __init__(self, place):
        self.place = place


class Ready(BulkError):
    """The work on this part is done."""

    def __init__(self, place):
        self.place = place


class BadCourse(BulkError):
    """A course has this fault, at this place."""

    def __init__(self, fault, unit, run, place):
        self.fault = fault
        self.unit = unit
        self.run = run
        self.place = place
