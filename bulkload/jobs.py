"""Jobs: into which tables the records of a text go, and how their columns are made."""

from bulkload.basics import are_different, is_number, is_whole
from bulkload.errors import BadJob
from bulkload.expressions import is_in_role
from bulkload.formats import Delimited, Fixed

RULES = ("insert", "skip", "replace", "merge", "change", "remove")
MOST_TARGETS = 8
MOST_SIZE = 100


class Target:
    """A table into which records go, and how they are loaded there."""

    def __init__(self, place, columns, *, condition=("always",), rule="insert"):
        self.place = place
        self.columns = columns
        self.condition = condition
        self.rule = rule


class Job:
    """A format, targets and settings for the loading of a text."""

    def __init__(self, form, targets, *, size=10, most_rejects=None, strict=False, skip_first=0, at_most=None):
        self.form = form
        self.targets = targets
        self.size = size
        self.most_rejects = most_rejects
        self.strict = strict
        self.skip_first = skip_first
        self.at_most = at_most


def are_targets(value):
    """Whether a value of any sort is a tuple of 1 to 8 Targets."""
    if not isinstance(value, tuple) or not 1 <= len(value) <= MOST_TARGETS:
        return False
    return all([isinstance(target, Target) for target in value])


def is_from_zero(value):
    """Whether a value of any sort is an integer from 0 on."""
    return is_number(value) and value >= 0


def wrong_setting(job):
    """The first rule that a job breaks beside those of its targets, or None."""
    if not isinstance(job.form, (Delimited, Fixed)):
        return "format"
    if not are_targets(job.targets):
        return "targets"
    if not is_whole(job.size, 1, MOST_SIZE):
        return "size"
    if job.most_rejects is not None and not is_from_zero(job.most_rejects):
        return "most_rejects"
    if not isinstance(job.strict, bool):
        return "strict"
    if not is_from_zero(job.skip_first):
        return "skip_first"
    if job.at_most is not None and not is_from_zero(job.at_most):
        return "at_most"
    return None


def are_titled_pairs(value):
    """Whether a value of any sort is a tuple of pairs, each with a string in front."""
    if not isinstance(value, tuple):
        return False
    return all([isinstance(pair, tuple) and len(pair) == 2 and isinstance(pair[0], str) for pair in value])


def are_columns(value, table, rule):
    """Whether a value of any sort names columns of the table as the rule of a target asks."""
    if not are_titled_pairs(value):
        return False
    titles = [pair[0] for pair in value]
    known = [column.title for column in table.columns]
    if not all([title in known for title in titles]) or not are_different(titles):
        return False
    # A removal needs nothing but the key.
    return all([title in titles for title in table.key]) and (rule != "remove" or len(titles) == len(table.key))


def wrong_in_target(schema, target, names):
    """The first rule that a target breaks, or None; names is None if all titles may stand in expressions."""
    if target.place not in schema or target.place in schema.tally_titles():
        return "table"
    if not isinstance(target.rule, str) or target.rule not in RULES:
        return "rule"
    if not are_columns(target.columns, schema.table_of(target.place), target.rule):
        return "columns"
    if not all([is_in_role("expression", pair[1], names) for pair in target.columns]):
        return "expression"
    if not is_in_role("condition", target.condition, names):
        return "condition"
    return None


def check_job(schema, job):
    """Raises BadJob for what is no job for the schema; fields of a header are not looked at."""
    rule = wrong_setting(job)
    if rule is not None:
        raise BadJob(None, rule)
    for index in range(len(job.targets)):
        rule = wrong_in_target(schema, job.targets[index], job.form.names)
        if rule is not None:
            raise BadJob(index, rule)


def check_fields(job, names):
    """Raises BadJob for a target with a field that a header with these names does not have."""
    for index in range(len(job.targets)):
        target = job.targets[index]
        if not all([is_in_role("expression", pair[1], names) for pair in target.columns]):
            raise BadJob(index, "expression")
        if not is_in_role("condition", target.condition, names):
            raise BadJob(index, "condition")
