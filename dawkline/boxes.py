"""Boxes: the messages of a user with their changes, and copies that follow these changes."""

from dawkline.errors import NoSuchEntry


class Box:
    """The entries of a user, tuples (number, lines, flags, change)."""

    def __init__(self):
        self.number = 0
        self.change = 0
        self.entries = []
        # The pairs (number, change) of all expunged entries: a mark may be as old as the box.
        self._gone = []

    def deliver(self, lines):
        """Add an entry with a message, and return its number."""
        self.number = self.number + 1
        self.change = self.change + 1
        self.entries.append((self.number, lines, (), self.change))
        return self.number

    def set_flags(self, number, flags):
        """Replace the flags of an entry, or raise NoSuchEntry."""
        place = self._place(number)
        lines = self.entries[place][1]
        self.change = self.change + 1
        self.entries[place] = (number, lines, tuple(sorted(set(flags))), self.change)

    def expunge(self, number):
        """Remove an entry, or raise NoSuchEntry."""
        place = self._place(number)
        self.change = self.change + 1
        self.entries.pop(place)
        self._gone.append((number, self.change))

    def news(self, mark):
        """Return (mark, entries, gone): the last change, and what changed after the given mark."""
        entries = tuple([entry for entry in self.entries if entry[3] > mark])
        gone = tuple(sorted([number for number, change in self._gone if change > mark]))
        return (self.change, entries, gone)

    def to_value(self):
        """Return a value from which box_of makes the same box again."""
        return (self.number, self.change, tuple(self.entries), tuple(self._gone))

    def _place(self, number):
        """Return the index of the entry with this number, or raise NoSuchEntry."""
        for place, entry in enumerate(self.entries):
            if entry[0] == number:
                return place
        raise NoSuchEntry(f"no entry has the number {number}")

    def _restore(self, value):
        """Take over the box whose value it is."""
        self.number, self.change, entries, gone = value
        self.entries = list(entries)
        self._gone = list(gone)


def box_of(value):
    """Return the box whose value it is."""
    box = Box()
    box._restore(value)
    return box


class Copy:
    """A copy of a box, as far as its news have arrived."""

    def __init__(self):
        self.mark = 0
        self.entries = []

    def update(self, news):
        """Take over the news of the box."""
        mark, changed, gone = news
        kept = {entry[0]: entry for entry in self.entries if entry[0] not in gone}
        for entry in changed:
            kept[entry[0]] = entry
        self.entries = [kept[number] for number in sorted(kept)]
        self.mark = mark
