"""Units: which records are handled together."""

from bulkload.taken import taken_in

WORDS = ("loaded", "replaced", "merged", "changed", "removed", "skipped", "discarded", "rejected")


def units_in(taken, size, is_over):
    """The units of records that follow one another, and the last records that are in none.

    If it is over, as there are no more records, all are in a unit.
    """
    units = []
    unit = []
    for record in taken:
        if record.is_removal() and len(unit) > 0:
            units.append(unit)
            unit = []
        unit.append(record)
        if record.is_removal() or len(unit) == size:
            units.append(unit)
            unit = []
    if is_over and len(unit) > 0:
        units.append(unit)
        unit = []
    return (units, unit)


def all_units(job, taken):
    """The units of all records of a text that are taken."""
    return units_in(taken, job.size, True)[0]


def cut_units(schema, job, text):
    """The units of a text, each the tuple of the numbers of its records."""
    units = all_units(job, taken_in(schema, job, text))
    return tuple([tuple([record.number for record in unit]) for unit in units])
