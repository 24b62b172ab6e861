"""Units on a database: their runs, what they come to, and where a load is stopped."""

from bulkload.handling import Run

ACTS = ("loaded", "replaced", "merged", "changed", "removed")


class Handled:
    """What the runs of a unit have done so far.

    runs has a tuple of steps for each run, words what each record did last, and rejected the reason, the
    run and what stands in the way for the numbers of rejected records.
    """

    def __init__(self, unit):
        self.unit = unit
        self.runs = []
        self.words = {}
        self.rejected = {}


def run_once(holdings, handled):
    """Does the next run of a unit; returns whether another one follows."""
    run = Run(holdings)
    which = len(handled.runs) + 1
    acts = []
    for record in handled.unit:
        if record.number not in handled.rejected:
            word, reason, way = run.handle(record)
            acts.append((record, word, reason))
            handled.words[record.number] = word
            if reason is not None:
                handled.rejected[record.number] = (reason, which, way)
    ends = run.ends()
    for number in ends:
        handled.rejected[number] = (ends[number], which, None)
    steps = [(record.number, word, record.place, record.key, ends.get(record.number, reason))
             for record, word, reason in acts]
    handled.runs.append(tuple(steps))
    return len(ends) > 0


def handle_unit(holdings, unit):
    """Does all runs of a unit, behind which the holdings are as behind the last one."""
    handled = Handled(unit)
    while run_once(holdings, handled):
        holdings.undo_all()
    return handled


def outcomes_of(handled):
    """The outcomes of a unit, as if the job were not strict."""
    found = []
    for record in handled.unit:
        reason, run, way = handled.rejected.get(record.number, (None, None, None))
        word = handled.words[record.number] if reason is None else "rejected"
        found.append((record.number, word, record.place, record.key, reason, run, way))
    return found


def rejected_among(outcomes):
    return [outcome for outcome in outcomes if outcome[1] == "rejected"]


def strict_outcomes(outcomes, runs):
    """The outcomes of a unit of a strict job in which a record is rejected behind so many runs."""
    least = min([outcome[0] for outcome in rejected_among(outcomes)])
    found = []
    for outcome in outcomes:
        number, word, place, key = outcome[:4]
        if word in ACTS:
            found.append((number, "rejected", place, key, ("unit", least), runs, least))
        else:
            found.append(outcome)
    return found


class Done:
    """What a unit came to: its runs, its outcomes, and the number of its rejects with a reason of their own.

    If the load is stopped in front of it, stop has the outcomes of these rejects, otherwise it is None.
    """

    def __init__(self, runs, outcomes, own):
        self.runs = runs
        self.answers = outcomes
        self.own = own
        self.stop = None


def do_unit(job, holdings, unit, so_far):
    """Does a unit on the holdings, or nothing if the load is stopped in front of it.

    so_far is the number of records that were rejected for a reason of their own in the units before. The
    changes of the holdings can still be undone.
    """
    handled = handle_unit(holdings, unit)
    outcomes = outcomes_of(handled)
    rejected = rejected_among(outcomes)
    done = Done(tuple(handled.runs), outcomes, len(rejected))
    if job.most_rejects is not None and so_far + done.own > job.most_rejects:
        holdings.undo_all()
        done.stop = tuple(rejected)
        done.answers = []
    else:
        if job.strict and done.own > 0:
            holdings.undo_all()
            done.answers = strict_outcomes(outcomes, len(done.runs))
        holdings.contents.count_unit()
    return done


class Play:
    """What the units of a text came to: the course, the outcomes, and those in front of which it was stopped."""

    def __init__(self):
        self.course = []
        self.answers = []
        self.stop = None


def play_units(job, holdings, units):
    """Does units one after the other, up to the one in front of which the load is stopped."""
    play = Play()
    own = 0
    for unit in units:
        done = do_unit(job, holdings, unit, own)
        holdings.keep()
        play.course.append(done.runs)
        play.answers.extend(done.answers)
        if done.stop is not None:
            play.stop = done.stop
            return play
        own += done.own
    return play
