"""Stores: the tables of a schema and their last load, and the items that tell them.

An item is some texts; the first one is a word for what it tells. A store is told by entries, one behind the
other. Each begins with an item for the load; the others tell what is new: "p" puts a row, "d" takes one away,
"n" is the number of a sequence, "h" the header, "r" a reject and "t" a discard. Totals are not told.
"""

from bulkload.contents import Contents
from bulkload.holdings import Holdings
from bulkload.tokens import tokens
from bulkload.units import WORDS
from bulkload.values import shown_text, value_from


def texts_of(kinds, found):
    """The texts of values, None for missing ones."""
    return [None if value is None else shown_text(kind, value) for kind, value in zip(kinds, found)]


def values_of(kinds, texts):
    """The values of texts, None for missing ones."""
    return tuple([None if text is None else value_from(kind, text) for kind, text in zip(kinds, texts)])


def number_item(sequence, number):
    return tokens(["n", sequence, str(number)])


def header_item(text):
    return tokens(["h", text])


def reject_item(reject):
    number, line, reason, text = reject
    return tokens(["r", " ".join([str(element) for element in (number, line) + reason]), text])


def discard_item(discard):
    number, line, text = discard
    return tokens(["t", f"{number} {line}", text])


class Store:
    """The tables of a schema and their last load.

    called, phase and reached are the name, the status and the position of the load; number and feeds are the
    number of its last record that is done, and how many line feeds stand up to its end. news has the items
    that are not on the disk yet, row_size and list_size tell how long all items for rows and for the lists of
    the load are, and file and size are those of the entries on the disk.
    """

    def __init__(self, layout):
        self.layout = layout
        self.places = {}
        self.row_kinds = {}
        self.key_kinds = {}
        for title in layout.titles:
            kinds = {column.title: column.kind for column in layout.table_of(title).columns}
            self.places[title] = str(len(self.places))
            self.row_kinds[title] = list(kinds.values())
            self.key_kinds[title] = [kinds[name] for name in layout.table_of(title).key]
        self.holdings = Holdings(layout, Contents(layout.titles))
        self.numbers = {}
        self.row_size = 0
        self.file = None
        self.size = 0
        self.begin(None, None)

    def begin(self, called, phase):
        """Puts a load of which nothing is done in the place of the last one."""
        self.called = called
        self.phase = phase
        self.reached = 0
        self.number = 0
        self.feeds = 0
        self.header = None
        self.words = {word: 0 for word in WORDS}
        self.refused = []
        self.passed = []
        self.list_size = 0
        self.news = []
        self.is_new = True

    def row_item(self, title, row):
        return tokens(["p", self.places[title]] + texts_of(self.row_kinds[title], row))

    def key_item(self, title, key):
        return tokens(["d", self.places[title]] + texts_of(self.key_kinds[title], key))

    def load_item(self, is_new):
        """The item for the load; if it is new, nothing of the last one stays."""
        amounts = [self.reached, self.number, self.feeds, self.holdings.contents.handled]
        told = " ".join([str(amount) for amount in amounts + [self.words[word] for word in WORDS]])
        return tokens(["new" if is_new else "more", self.called, self.phase, told])

    def number_items(self):
        numbers = self.holdings.contents.numbers
        return [number_item(sequence, numbers[sequence]) for sequence in numbers]

    def add_item(self, item):
        """Adds an item for the lists of the load."""
        self.news.append(item)
        self.list_size += len(item)

    def add_header(self, text):
        """Adds the header, which is done."""
        self.header = text
        self.add_item(header_item(text))

    def add_reject(self, reject):
        self.refused.append(reject)
        self.add_item(reject_item(reject))

    def add_discard(self, discard):
        self.passed.append(discard)
        self.add_item(discard_item(discard))

    def move(self, number, text):
        """Moves behind a record with this number and this text."""
        self.number = number
        self.reached += len(text)
        self.feeds += text.count("\n")

    def add_changes(self):
        """Adds the rows that were touched and the numbers that were given, and keeps them."""
        holdings = self.holdings
        for (title, key), old in holdings.touched.items():
            row = holdings.row_of(title, key)
            if old is not None:
                self.row_size -= len(self.row_item(title, old))
            if row is not None:
                self.row_size += len(self.row_item(title, row))
            if row != old:
                self.news.append(self.key_item(title, key) if row is None else self.row_item(title, row))
        numbers = holdings.contents.numbers
        self.news.extend([number_item(sequence, numbers[sequence]) for sequence in numbers
                          if numbers[sequence] != self.numbers.get(sequence)])
        self.numbers = dict(numbers)
        holdings.keep()

    def entry_size(self):
        """How long the entry is that tells the whole store."""
        return len(self.load_item(True)) + len("".join(self.number_items())) + self.row_size + self.list_size

    def whole_entry(self):
        """The entry that tells the whole store."""
        items = [self.load_item(True)] + self.number_items()
        if self.header is not None:
            items.append(header_item(self.header))
        for title, rows in self.holdings.contents.tables.items():
            if title not in self.holdings.counting:
                items.extend([self.row_item(title, row) for row in rows.values()])
        items.extend([reject_item(reject) for reject in self.refused])
        items.extend([discard_item(discard) for discard in self.passed])
        return "".join(items)

    def news_entry(self):
        """The entry that tells what is new."""
        return self.load_item(self.is_new) + "".join(self.news)
