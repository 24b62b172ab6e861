"""Looking at loads: the order of tables, the blame of rejected records, and the influence of records."""

from bulkload.basics import is_number
from bulkload.errors import NoRecord, NotRejected
from bulkload.loads import trial
from bulkload.units import cut_units


def titles_reached(leads, title):
    """A table and all to which it refers, directly or through others; leads tells the direct ones."""
    found = [title]
    at = 0
    while at < len(found):
        found.extend([other for other in leads[found[at]] if other not in found])
        at += 1
    return found


def all_reached(schema):
    """A dict from the titles of the tables that are no tally tables to those that they reach."""
    tallies = schema.tally_titles()
    leads = {}
    for title in schema.titles:
        if title not in tallies:
            leads[title] = list({reference[1]: True for reference in schema.table_of(title).references})
    return {title: titles_reached(leads, title) for title in leads}


def next_group(reached, placed):
    """The first group that refers to nothing but itself and what is placed."""
    for title in reached:
        group = [other for other in reached if other in reached[title] and title in reached[other]]
        outside = [other for other in reached[title] if other not in group and other not in placed]
        if title not in placed and len(outside) == 0:
            return group
    return []


def load_order(schema):
    """The groups of tables, each behind those to which it refers."""
    reached = all_reached(schema)
    placed = []
    groups = []
    while len(placed) < len(reached):
        group = next_group(reached, placed)
        placed.extend(group)
        groups.append(tuple(group))
    return tuple(groups)


def next_to_blame(result, outcome, chain):
    """The outcome of the record that stands behind this one in a chain, a dict of numbers, or None."""
    way = outcome[6]
    if way is not None and way > 0:
        other = result.outcome(way)
        return other if other[1] == "rejected" and way not in chain else None
    place = result.table_referred(outcome)
    if place is None:
        return None
    key = outcome[4][2]
    for other in result.outcomes:
        if other[1:4] == ("rejected", place, key) and other[4] != ("absent",) and other[0] not in chain:
            return other
    return None


def blame(result, number):
    """The chain of numbers from a rejected record to those that are to blame."""
    outcome = result.outcome(number)
    if outcome[1] != "rejected":
        raise NotRejected(number)
    chain = {}
    while outcome is not None:
        chain[outcome[0]] = True
        outcome = next_to_blame(result, outcome, chain)
    return tuple(chain)


def looked_at(result):
    """A dict from the numbers of records to their words, keys and reasons."""
    return {outcome[0]: (outcome[1], outcome[3], outcome[4]) for outcome in result.outcomes}


def influence(database, job, text, number):
    """The numbers of the other records of which something would be different without this one."""
    taken = [other for unit in cut_units(database.schema, job, text) for other in unit]
    if not is_number(number) or number not in taken:
        raise NoRecord(number)
    before = looked_at(trial(database, job, text))
    behind = looked_at(trial(database, job, text, without=(number,)))
    return tuple([other for other in taken if other != number and before.get(other) != behind.get(other)])
