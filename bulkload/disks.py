"""Disks that can lose everything that was not made sure."""

from bulkload.basics import check_text, first_wrong, is_plain, is_title, is_whole
from bulkload.errors import BadFiles, BadLength, BadName, BadText, NoFile, NoRoom, TooMany

MOST_FILES = 10
MOST_IN_HEAD = 100
MOST_ROOM = 1_000_000_000


def check_head(text):
    """Raises BadText for what is no head."""
    if not isinstance(text, str):
        raise BadText(None)
    start = text[:MOST_IN_HEAD]
    if not is_plain(start):
        raise BadText(first_wrong(start))
    if len(text) > MOST_IN_HEAD:
        raise BadText(MOST_IN_HEAD)


def check_name(name):
    if not is_title(name):
        raise BadName(name)


def are_files(value):
    """Whether a value of any sort is a dict from titles to strings that files can have."""
    if not isinstance(value, dict):
        return False
    for name, text in value.items():
        if not is_title(name) or not isinstance(text, str) or text == "" or not is_plain(text):
            return False
    return True


class Disk:
    """Files and a head; of each file a beginning is sure."""

    def __init__(self, files=None, *, head="", room=100000):
        found = {} if files is None else files
        if not are_files(found):
            raise BadFiles(files)
        check_head(head)
        if not is_whole(room, 0, MOST_ROOM):
            raise BadLength(room)
        if len(found) > MOST_FILES:
            raise TooMany(MOST_FILES)
        self._files = {name: found[name] for name in found}
        self._sure = {name: len(found[name]) for name in found}
        self._head = head
        self._room = room
        self._writes = []
        self._check_room(0)

    @property
    def head(self):
        return self._head

    def _check_room(self, more):
        """Raises NoRoom if there is none for so many characters more."""
        characters = sum([len(text) for text in self._files.values()]) + len(self._head) + more
        if characters > self._room:
            raise NoRoom(characters)

    def _check_file(self, name):
        check_name(name)
        if name not in self._files:
            raise NoFile(name)

    def _remove_file(self, name):
        del self._files[name]
        del self._sure[name]

    def write(self, name, text):
        """Appends a text to a file; of what was not there all is unsure."""
        check_name(name)
        check_text(text)
        if text != "":
            if name not in self._files and len(self._files) == MOST_FILES:
                raise TooMany(MOST_FILES)
            self._check_room(len(text))
            self._files[name] = self._files.get(name, "") + text
            self._sure.setdefault(name, 0)
            self._writes.append(("write", name, text))

    def sync(self, name):
        """Makes the whole text of a file sure."""
        self._check_file(name)
        length = len(self._files[name])
        if self._sure[name] < length:
            self._sure[name] = length
            self._writes.append(("sync", name))

    def cut(self, name, length):
        """Cuts a file to a length; 0 drops it."""
        self._check_file(name)
        if not is_whole(length, 0, len(self._files[name])):
            raise BadLength(length)
        if length < len(self._files[name]):
            self._writes.append(("cut", name, length))
            self._files[name] = self._files[name][:length]
            self._sure[name] = min(self._sure[name], length)
            if length == 0:
                self._remove_file(name)

    def drop(self, name):
        """Removes a file."""
        self._check_file(name)
        self._remove_file(name)
        self._writes.append(("drop", name))

    def swap(self, text):
        """Puts another text in the place of the head."""
        check_head(text)
        if text != self._head:
            self._check_room(len(text) - len(self._head))
            self._head = text
            self._writes.append(("swap", text))

    def read(self, name):
        """The text of a file, "" if there is none."""
        check_name(name)
        return self._files.get(name, "")

    def files(self):
        """A new dict from the names of the files to their texts."""
        return dict(self._files)

    def writes(self):
        """The writes that changed something since the disk was made."""
        return tuple(self._writes)

    def _are_kept(self, kept):
        """Whether a value of any sort tells how much of what is not sure is kept of files."""
        if not isinstance(kept, dict):
            return False
        for name, many in kept.items():
            if not isinstance(name, str) or name not in self._files:
                return False
            if not is_whole(many, 0, len(self._files[name]) - self._sure[name]):
                return False
        return True

    def lost(self, kept=None):
        """The disk behind a loss of power; kept tells how many characters behind the sure ones are kept."""
        more = {} if kept is None else kept
        if not self._are_kept(more):
            raise BadFiles(kept)
        files = {name: self._files[name][:self._sure[name] + more.get(name, 0)] for name in self._files}
        left = {name: files[name] for name in files if files[name] != ""}
        return Disk(left, head=self._head, room=self._room)
