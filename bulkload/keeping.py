"""How stores are kept on disks so that a loss leaves a whole one.

One file has the entries of a store. The head tells its name, and its length up to the end of the last entry
that counts; it is swapped when all up to there is sure. So what stands behind this length, or in the other
file, was left by a loss or for lack of room. When the entries get long beside the store, the other file
gets one that tells the whole store, and takes the place of the first one.
"""

from bulkload.contents import key_in
from bulkload.stores import Store, values_of
from bulkload.tokens import texts_in
from bulkload.units import WORDS

FILES = ("store_one", "store_two")
MOST_IN_WRITE = 20000
# An entry for a whole store is hardly longer than its weight, so the entries stay below 3 * weight + 2,000.
MOST_OVER = 1000


def element_of(word):
    """The element of a reason that is told as a word; titles begin with a letter."""
    return int(word) if word.isdigit() else word


def numbers_in(told):
    """The integers that are told as words."""
    return [int(word) for word in told.split(" ")]


def read_load(store, texts, at):
    """Takes the item for a load."""
    word, called, phase, told = texts[at:at + 4]
    if word == "new":
        store.begin(called, phase)
        store.is_new = False
    amounts = numbers_in(told)
    contents = store.holdings.contents
    store.phase = phase
    store.reached = amounts[0]
    store.number = amounts[1]
    store.feeds = amounts[2]
    contents.handled = amounts[3]
    store.words = dict(zip(WORDS, amounts[4:]))
    return at + 4


def put_row(store, title, key, row):
    """Puts a row, or takes one away; totals are right when all is read, and nothing is looked at before."""
    old = store.holdings.row_of(title, key)
    if old is not None:
        store.holdings.add_up(title, old, -1)
    if row is not None:
        store.holdings.add_up(title, row, 1)
    store.holdings.put(title, key, row)


def read_row(store, texts, at):
    """Takes the item for a row that is put."""
    title = store.layout.titles[int(texts[at + 1])]
    kinds = store.row_kinds[title]
    row = values_of(kinds, texts[at + 2:at + 2 + len(kinds)])
    put_row(store, title, key_in(store.layout.table_of(title), row), row)
    return at + 2 + len(kinds)


def read_key(store, texts, at):
    """Takes the item for a row that is taken away."""
    title = store.layout.titles[int(texts[at + 1])]
    kinds = store.key_kinds[title]
    put_row(store, title, values_of(kinds, texts[at + 2:at + 2 + len(kinds)]), None)
    return at + 2 + len(kinds)


def read_reject(store, texts, at):
    """Takes the item for a reject or a discard."""
    words = [element_of(word) for word in texts[at + 1].split(" ")]
    if texts[at] == "r":
        store.add_reject((words[0], words[1], tuple(words[2:]), texts[at + 2]))
    else:
        store.add_discard((words[0], words[1], texts[at + 2]))
    return at + 3


def read_item(store, texts, at):
    """Takes the item that begins at an index, and returns the index behind it."""
    word = texts[at]
    if word in ("new", "more"):
        return read_load(store, texts, at)
    if word == "p":
        return read_row(store, texts, at)
    if word == "d":
        return read_key(store, texts, at)
    if word in ("r", "t"):
        return read_reject(store, texts, at)
    if word == "h":
        store.add_header(texts[at + 1])
        return at + 2
    numbers = store.holdings.contents.numbers
    numbers[texts[at + 1]] = int(texts[at + 2])
    return at + 3


def read_store(disk, layout):
    """The store on a disk; nothing is written."""
    store = Store(layout)
    if disk.head != "":
        name, size = disk.head.split(" ")
        store.file = name
        store.size = int(size)
        texts = texts_in(disk.read(name)[:store.size])
        at = 0
        while at < len(texts):
            at = read_item(store, texts, at)
        store.add_changes()
        store.news = []
    return store


def clean_disk(disk, store):
    """Takes away what a loss, or the lack of room, left."""
    for name in FILES:
        size = store.size if name == store.file else 0
        if len(disk.read(name)) > size:
            disk.cut(name, size)


def append_entry(disk, name, begin, entry):
    """Appends an entry to a file that has so many characters, and makes it count."""
    for at in range(0, len(entry), MOST_IN_WRITE):
        disk.write(name, entry[at:at + MOST_IN_WRITE])
    disk.sync(name)
    disk.swap(f"{name} {begin + len(entry)}")


def keep_news(disk, store):
    """Puts what is new in a store on the disk."""
    entry = store.news_entry()
    if store.file is not None and store.size + len(entry) <= 2 * store.entry_size() + MOST_OVER:
        append_entry(disk, store.file, store.size, entry)
        store.size += len(entry)
    else:
        other = FILES[1] if store.file == FILES[0] else FILES[0]
        entry = store.whole_entry()
        append_entry(disk, other, 0, entry)
        if store.file is not None:
            disk.drop(store.file)
        store.file = other
        store.size = len(entry)
    store.news = []
    store.is_new = False
