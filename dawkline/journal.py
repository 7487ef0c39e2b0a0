"""Journals: a value and the events after it, kept on a disk so that no crash splits them."""

from dawkline.errors import Incomplete, InvalidRecord
from dawkline.record import TUPLE, pack, unpack

BEGIN = "begin"


class Journal:
    """The journal of a disk: what it held when it was loaded, and the way to write to it."""

    def __init__(self, disk):
        file, (generation, value, events) = load(disk)
        self.generation = generation
        self.value = value
        self._events = events
        self._disk = disk
        # These two go on with each checkpoint, while what was loaded stays as it is.
        self._current = file
        self._newest = generation

    @property
    def events(self):
        """The events that were loaded, in a new list, so that its changes do not come back."""
        return list(self._events)

    def checkpoint(self, value):
        """Store a value in the other file, which becomes the current one."""
        file = 1 - self._current
        generation = self._newest + 1
        self._disk.clear(file)
        self._disk.append(file, pack((BEGIN, generation, value)))
        self._disk.sync(file)
        self._current = file
        self._newest = generation

    def add(self, event):
        """Store an event behind the last checkpoint."""
        self._disk.append(self._current, pack(event))
        self._disk.sync(self._current)


def load(disk):
    """Return (file, loaded): the current file, and its generation, value and events."""
    # Without a usable file the current one is 1, so that the first checkpoint goes to file 0.
    current = 1
    loaded = (0, None, [])
    for file in (0, 1):
        found = read_file(disk.content(file))
        if found is not None and found[0] > loaded[0]:
            current = file
            loaded = found
    return (current, loaded)


def read_file(content):
    """Return (generation, value, events) of a usable content, or None if it is not usable."""
    begin = read_begin(content)
    if begin is None:
        return None
    generation, value, place = begin
    return (generation, value, read_events(content, place))


def read_begin(content):
    """Return (generation, value, place) of the begin record at the start, or None if there is none."""
    start = [TUPLE, 3] + pack(BEGIN)
    if content[:len(start)] != start:
        return None
    # The value is read on its own, because a value may be as deep as a whole record.
    try:
        generation, place = unpack(content, len(start))
        value, place = unpack(content, place)
    except (Incomplete, InvalidRecord):
        return None
    if not is_generation(generation):
        return None
    return (generation, value, place)


def is_generation(value):
    """Return True if a value is an integer from 1, otherwise False."""
    return isinstance(value, int) and not isinstance(value, bool) and value >= 1


def read_events(content, at):
    """Return the list of the values of the complete records from an index on."""
    events = []
    place = at
    while place < len(content):
        try:
            event, place = unpack(content, place)
        except (Incomplete, InvalidRecord):
            return events
        events.append(event)
    return events
