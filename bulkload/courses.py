"""Courses of loads, and told ones held against them."""

from bulkload.errors import BadCourse
from bulkload.holdings import Holdings
from bulkload.runs import play_units
from bulkload.tables import contents_of
from bulkload.taken import taken_in
from bulkload.units import WORDS, all_units


def is_plain_tuple(value):
    # A tuple of another class could do anything when it is looked into.
    return type(value) == tuple


def is_step(value):
    """Whether a value of any sort has the form of a step."""
    if not is_plain_tuple(value) or len(value) != 5:
        return False
    number, word, place, key, reason = value
    if type(number) != int or type(word) != str or word not in WORDS:
        return False
    if place is not None and type(place) != str:
        return False
    return (key is None or is_plain_tuple(key)) and (reason is None or is_plain_tuple(reason))


def fault_in_run(unit, run, steps):
    """The first fault in the form of what is told for a run, or None."""
    if not is_plain_tuple(steps):
        return ("form", unit, run, None)
    for place in range(len(steps)):
        if not is_step(steps[place]):
            return ("form", unit, run, place)
    return None


def fault_in_form(course):
    """The first fault in the form of an object of any sort, or None."""
    if not is_plain_tuple(course):
        return ("form", None, None, None)
    for unit in range(len(course)):
        if not is_plain_tuple(course[unit]):
            return ("form", unit, None, None)
        for run in range(len(course[unit])):
            fault = fault_in_run(unit, run, course[unit][run])
            if fault is not None:
                return fault
    return None


def is_same(told, real):
    """Whether an object of any sort is the same as one of integers, strings, True, False, None and tuples."""
    if real is None:
        return told is None
    if isinstance(real, tuple):
        if not is_plain_tuple(told) or len(told) != len(real):
            return False
        return all([is_same(one, other) for one, other in zip(told, real)])
    if isinstance(real, bool):
        return type(told) == bool and told == real
    if isinstance(real, str):
        return type(told) == str and told == real
    return type(told) == int and told == real


def first_other(told, real):
    """The first index at which one of two tuples has nothing, or None if they are of one length."""
    return None if len(told) == len(real) else min(len(told), len(real))


def fault_in_steps(told, real):
    """The fault and the place of the first step of a run that differs, but for what the end tells, or None."""
    for place in range(min(len(told), len(real))):
        one, other = told[place], real[place]
        if one[0] != other[0]:
            return ("record", place)
        if not is_same(one[1:4], other[1:4]) or other[1] == "rejected" and not is_same(one[4], other[4]):
            return ("step", place)
    place = first_other(told, real)
    return None if place is None else ("record", place)


def fault_of_run(told, real):
    """The fault and the place of the first thing that differs in a run, or None."""
    fault = fault_in_steps(told, real)
    if fault is not None:
        return fault
    for place in range(len(real)):
        if not is_same(told[place][4], real[place][4]):
            return ("end", place)
    return None


def fault_of_unit(unit, told, real):
    """The first fault of a unit that is told, or None."""
    for run in range(min(len(told), len(real))):
        fault = fault_of_run(told[run], real[run])
        if fault is not None:
            return (fault[0], unit, run, fault[1])
    run = first_other(told, real)
    return None if run is None else ("runs", unit, run, None)


def fault_between(told, real):
    """The first fault of any object, beside the course of the load."""
    # In front of the first difference the told steps are those of the load, so what they make of the tables
    # is what the load makes of them, and the rules tell there what the load does.
    fault = fault_in_form(told)
    if fault is not None:
        return fault
    for unit in range(min(len(told), len(real))):
        fault = fault_of_unit(unit, told[unit], real[unit])
        if fault is not None:
            return fault
    unit = first_other(told, real)
    return None if unit is None else ("units", unit, None, None)


class Course:
    """The course of a load, its outcomes, and the contents of the database behind it."""

    def __init__(self, database, job, text):
        units = all_units(job, taken_in(database.schema, job, text))
        self.contents = contents_of(database).copied()
        play = play_units(job, Holdings(database.schema, self.contents), units)
        self.units = tuple(play.course)
        self.answers = tuple(play.answers)


def course_of(database, job, text):
    """The course of the load of a text."""
    return Course(database, job, text).units


def fault_in(database, job, text, course):
    """The first fault of any object that is told as the course of a load, or None."""
    return fault_between(course, Course(database, job, text).units)


def right_course(database, job, text, course):
    """The course of a load that is told, if it is that."""
    real = Course(database, job, text)
    fault = fault_between(course, real.units)
    if fault is not None:
        raise BadCourse(fault[0], fault[1], fault[2], fault[3])
    return real


def outcomes_told(database, job, text, course):
    """The outcomes of a load, as its course tells them."""
    return right_course(database, job, text, course).answers


def rows_told(database, job, text, course):
    """A dict from the titles of all tables to their rows behind a load, as its course tells them."""
    contents = right_course(database, job, text, course).contents
    return {title: contents.rows_of(title) for title in database.schema.titles}
