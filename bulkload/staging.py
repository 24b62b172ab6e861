"""Texts that are cut into parts, on which the work is done in any order."""

from bulkload.basics import check_text, is_whole
from bulkload.errors import BadCuts, BadPart, NotReady, Ready
from bulkload.formats import records
from bulkload.jobs import check_job
from bulkload.loads import load_units
from bulkload.pieces import summary
from bulkload.tables import contents_of
from bulkload.taken import is_taken, names_among, routes_of, taken_from
from bulkload.units import all_units

MOST_CUTS = 100


def are_cuts(value, length):
    """Whether a value of any sort is a tuple of at most 100 ascending places in a text of this length."""
    if not isinstance(value, tuple) or len(value) > MOST_CUTS:
        return False
    before = 0
    for place in value:
        if not is_whole(place, before, length):
            return False
        before = place
    return True


class Part:
    """A part of a text: where it ends, the records that begin in it, and what the work on it came to.

    needed tells how many parts, from the first one on, must be looked at before it can be prepared.
    """

    def __init__(self, text, end, needed):
        self.text = text
        self.end = end
        self.needed = needed
        self.found = []
        self.phase = "new"
        self.sight = None
        self.taken = None


def parts_of(text, cuts):
    """The parts of a text, without their records."""
    parts = []
    begin = 0
    for end in cuts + (len(text),):
        parts.append(Part(text[begin:end], end, len(parts) + 1))
        begin = end
    return parts


def parts_up_to(parts, place):
    """How many parts, from the first one on, have all characters in front of a place."""
    many = 0
    while parts[many].end < place:
        many += 1
    return many + 1


def spread(form, text, parts, found):
    """Gives the parts the records that begin in them."""
    # Behind the last line feed that ends a record only the end of the text ends one.
    sure = len(text) - len(form.cut_piece(text, False)[-1])
    begin = 0
    for record in found:
        end = begin + len(record[2])
        part = parts[parts_up_to(parts, begin + 1) - 1]
        part.found.append(record)
        part.needed = max(part.needed, parts_up_to(parts, end) if end <= sure else len(parts))
        begin = end


class Staging:
    """The work on the parts of a text: each is looked at, and then prepared."""

    def __init__(self, schema, job, text, cuts):
        check_job(schema, job)
        check_text(text)
        if not are_cuts(cuts, len(text)):
            raise BadCuts(cuts)
        found = records(job.form, text)
        self._names = names_among(job, found)
        self._routes = routes_of(schema, job)
        self._job = job
        self._parts = parts_of(text, cuts)
        spread(job.form, text, self._parts, found)

    def __len__(self):
        return len(self._parts)

    def _part(self, k):
        """The part with a number."""
        if not is_whole(k, 0, len(self._parts) - 1):
            raise BadPart(k)
        return self._parts[k]

    def _is_ready(self, part):
        """Whether the next half of the work on a part can be done now."""
        if part.phase == "new":
            return True
        return part.phase == "looked" and all([other.phase != "new" for other in self._parts[:part.needed]])

    def part(self, k):
        """The text of a part."""
        return self._part(k).text

    def state(self, k):
        """Whether a part is "new", "looked" or "prepared"."""
        return self._part(k).phase

    def work(self, k):
        """Does the next half of the work on a part, and returns its new state."""
        part = self._part(k)
        if part.phase == "prepared":
            raise Ready(k)
        if not self._is_ready(part):
            raise NotReady(k)
        if part.phase == "new":
            part.sight = summary(self._job.form, part.text)
            part.phase = "looked"
        else:
            part.taken = [taken_from(self._routes, self._names, record) for record in part.found
                          if is_taken(self._job, record[0])]
            part.phase = "prepared"
        return part.phase

    def seen(self, k):
        """The summary of a part, None for a new one."""
        return self._part(k).sight

    def prepared(self, k):
        """The tuple of what was prepared of the records that begin in a part, None before."""
        part = self._part(k)
        if part.phase != "prepared":
            return None
        return tuple([(record.number, record.place, record.reason) for record in part.taken])

    def ready(self):
        """The parts of which the next half can be done now."""
        return tuple([k for k in range(len(self._parts)) if self._is_ready(self._parts[k])])

    def result(self, database):
        """Loads what was prepared, that is the whole text, and returns the Result."""
        taken = []
        for k in range(len(self._parts)):
            if self._parts[k].phase != "prepared":
                raise NotReady(k)
            taken.extend(self._parts[k].taken)
        return load_units(database.schema, contents_of(database), self._job, all_units(self._job, taken))
