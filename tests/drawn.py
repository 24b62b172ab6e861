"""Schemas, jobs and texts that are drawn by a random.Random, small enough for records to meet often."""

from bulkload.formats import Delimited
from bulkload.jobs import Job, Target
from bulkload.schemas import Column, Schema, Table

SMALL = ("int", 0, 5)
SIGNED = ("int", -3, 5)
KINDS = (SMALL, SMALL, SMALL, SIGNED, ("choice", ("x", "y")), ("text", 2), ("decimal", 0, 40, 1), ("truth",), ("date",))
RULES = ("insert", "insert", "insert", "skip", "replace", "merge", "merge", "change", "remove")
NAMES = ("to", "f1", "f2", "f3", "f4", "f5", "f6")
WRONG = ("7", "-9", "x", "zz", "yes", "1.5", "2.25", "0001-01-02", '"a ""b"""', '"\n"', "abc", '""', "")
RIGHT = {"int": ("0", "1", "2", "3", "4", "5", "1", "2"), "choice": ("x", "y"), "truth": ("yes", "no"),
         "text": ("a", "bb", '"\n"', '""', '"""a"'), "decimal": ("1", "1.5", "4.0", "0"),
         "date": ("0001-01-01", "2000-02-29")}


def small_titles(columns):
    """The titles of the columns of the kind that references and tallies use."""
    return [column.title for column in columns if column.kind == SMALL and not isinstance(column.default, tuple)]


def drawn_column(draw, title):
    kind = draw.choice(KINDS)
    default = None
    if draw.random() < 0.3:
        default = {"int": 1, "choice": "x", "text": "d", "decimal": 15, "truth": False, "date": 2}[kind[0]]
    if kind[0] == "int" and draw.random() < 0.25:
        kind, default = ("int", 1, draw.choice((2, 4, 999))), ("next", draw.choice(("s", "t")))
    return Column(title, kind, nullable=draw.random() < 0.7, default=default)


def some(draw, titles, most):
    """A tuple of one or more different titles."""
    return tuple(draw.sample(titles, draw.randint(1, min(most, len(titles)))))


def drawn_references(draw, titles, keys):
    """References from small columns to tables of which keys tells how many small columns their key has."""
    found = []
    for _ in range(draw.choice((0, 1, 1, 2))):
        place = draw.choice(sorted(keys))
        if keys[place] <= len(titles):
            found.append((tuple(draw.sample(titles, keys[place])), place, draw.choice(("now", "end", "end"))))
    return tuple(found)


def drawn_checks(draw, titles):
    if len(titles) < 2 or draw.random() < 0.6:
        return ()
    one, other = draw.sample(titles, 2)
    less = ("less", ("column", one), ("column", other))
    return draw.choice(((("c", less),), (("c", ("not", ("same", ("column", one), ("column", other)))),),
                        (("c", ("either", less, ("missing", ("column", one)))),
                         ("d", ("not", ("same", ("column", other), ("value", 4)))))))


def drawn_tallies(draw, titles, columns):
    """Tallies for the table "sums" (with the totals n and m) or "pairs" (with the total n)."""
    found = []
    amounts = [None] + [column.title for column in columns
                        if column.kind[0] == "int" and not isinstance(column.default, tuple)]
    for _ in range(draw.choice((0, 0, 1, 2))):
        place = draw.choice(("sums", "sums", "pairs"))
        many = 1 if place == "sums" else 2
        if many <= len(titles):
            total = draw.choice(("n", "m")) if place == "sums" else "n"
            found.append((place, tuple(draw.sample(titles, many)), draw.choice(amounts), total))
    return found


def drawn_schema(draw):
    """A schema of one to three tables, and the tally tables that are named in them."""
    count = draw.randint(1, 3)
    keys = {f"p{at}": draw.choice((1, 1, 2)) for at in range(count)}
    tables = []
    for place in sorted(keys):
        columns = [Column(f"k{at}", SMALL) for at in range(keys[place])]
        columns += [drawn_column(draw, f"c{at}") for at in range(draw.randint(1, 4))]
        key = tuple(draw.sample([f"k{at}" for at in range(keys[place])], keys[place]))
        draw.shuffle(columns)
        titles = small_titles(columns)
        plain = [column.title for column in columns if not isinstance(column.default, tuple)]
        uniques = tuple(some(draw, plain, 2) for _ in range(draw.choice((0, 0, 1, 2))))
        tables.append(Table(place, tuple(columns), key, uniques=uniques, checks=drawn_checks(draw, titles),
                            references=drawn_references(draw, titles, keys),
                            tallies=tuple(drawn_tallies(draw, titles, columns))))
    named = [tally for table in tables for tally in table.tallies]
    kind = draw.choice((("int", 0, 3), ("int", -2, 4), ("int", -99, 99)))
    for place, key in (("sums", ("g",)), ("pairs", ("h", "g"))):
        totals = sorted({tally[3] for tally in named if tally[0] == place})
        if totals:
            columns = [Column(title, SMALL) for title in key] + [Column(total, kind) for total in totals]
            draw.shuffle(columns)
            tables.append(Table(place, tuple(columns), key))
    draw.shuffle(tables)
    return Schema(tuple(tables))


def drawn_target(draw, schema, place, condition, rules=RULES):
    table = schema.table_of(place)
    rule = draw.choice(rules)
    named = [column.title for column in table.columns
             if column.title in table.key or rule != "remove" and draw.random() < 0.85]
    draw.shuffle(named)
    keys = [title for title in named if title in table.key]
    others = [title for title in named if title not in table.key]
    columns = {title: ("field", NAMES[1 + at]) for at, title in enumerate(sorted(keys) + sorted(others))}
    return Target(place, tuple((title, columns[title]) for title in named), condition=condition, rule=rule)


def drawn_job(draw, schema, form=None, rules=RULES, **settings):
    """A job with two to five targets; the field "to" tells which one takes a record."""
    places = [title for title in schema.titles if title not in schema.tally_titles()]
    targets = tuple(drawn_target(draw, schema, draw.choice(places), ("is", ("field", "to"), str(at)), rules)
                    for at in range(draw.randint(2, 5)))
    chosen = {"size": draw.choice((1, 2, 3, 5, 10, 100)), "strict": draw.random() < 0.25}
    if draw.random() < 0.2:
        chosen["most_rejects"] = draw.randint(0, 12)
    if draw.random() < 0.15:
        chosen["skip_first"] = draw.randint(0, 6)
    if draw.random() < 0.15:
        chosen["at_most"] = draw.randint(0, 30)
    if form is None:
        form = draw.choice((Delimited(names=NAMES), Delimited()))
    return Job(form, targets, **{**chosen, **settings})


def drawn_field(draw, column):
    """The part of a record for a column; most are right."""
    chance = draw.random()
    if chance < 0.03:
        return draw.choice(WRONG)
    if chance < (0.15 if column.nullable or column.default is not None else 0.05):
        return ""
    return draw.choice(RIGHT[column.kind[0]])


def drawn_record(draw, schema, job):
    """The text of a record without the line feed; most have fields that fit."""
    if draw.random() < 0.02:
        return draw.choice(('a"b', "1,2", "", "0,1,2,3,4,5,6,7"))
    to = draw.randrange(len(job.targets) + (1 if draw.random() < 0.1 else 0))
    fields = [str(to)] + [""] * (len(NAMES) - 1)
    if to < len(job.targets):
        columns = {column.title: column for column in schema.table_of(job.targets[to].place).columns}
        for title, expression in job.targets[to].columns:
            fields[NAMES.index(expression[1])] = drawn_field(draw, columns[title])
    return ",".join(fields)


def drawn_text(draw, schema, job, most=40):
    """A text for a job, with a header if its format has one."""
    rows = [] if job.form.names is not None else [",".join(NAMES)]
    rows += [drawn_record(draw, schema, job) for _ in range(draw.randint(0, most))]
    text = "\n".join(rows)
    return text if draw.random() < 0.3 or not rows else text + "\n"
