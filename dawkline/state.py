"""The state of a host: its items, boxes and tags, which change by events only."""

from dawkline.boxes import Box, box_of
from dawkline.errors import NoSuchEntry
from dawkline.message import report, trace


class Item:
    """A message on its way to one recipient."""

    def __init__(self, tag, sender, recipient, lines, via, born, tries, due, doubt):
        self.tag = tag
        self.sender = sender
        self.recipient = recipient
        self.lines = lines
        self.via = via
        self.born = born
        self.tries = tries
        self.due = due
        self.doubt = doubt

    def to_value(self):
        """Return the tuple of the attributes."""
        return (
            self.tag,
            self.sender,
            self.recipient,
            self.lines,
            self.via,
            self.born,
            self.tries,
            self.due,
            self.doubt,
        )


class State:
    """The state of the host with this domain, empty at first."""

    def __init__(self, domain):
        self.domain = domain
        self.count = 0
        self.serial = 0
        self.queue = {}
        self.boxes = {}
        self.taken = {}
        self.owed = {}

    def apply(self, event):
        """Change the state by an event, and return the list of the tags of the new items."""
        effects = {
            "submit": self._submit,
            "take": self._take,
            "doubt": self._doubt,
            "retry": self._retry,
            "passed": self._passed,
            "forgotten": self._forgotten,
            "forget": self._forget,
            "deliver": self._deliver,
            "expand": self._expand,
            "bounce": self._bounce,
            "flag": self._flag,
            "expunge": self._expunge,
        }
        effect = effects[event[0]]
        details = event[1:]
        tags = effect(*details)
        self.count = self.count + 1
        return tags

    def to_value(self):
        """Return a value from which state_of makes the same state again."""
        return (
            self.domain,
            self.count,
            self.serial,
            tuple([self.queue[tag].to_value() for tag in sorted(self.queue)]),
            tuple([(user, self.boxes[user].to_value()) for user in sorted(self.boxes)]),
            tuple([(tag, self.taken[tag]) for tag in sorted(self.taken)]),
            tuple([(tag, self.owed[tag]) for tag in sorted(self.owed)]),
        )

    def has_entry(self, user, number):
        """Return True if the box of a user has an entry with this number, otherwise False."""
        if user not in self.boxes:
            return False
        return number in [entry[0] for entry in self.boxes[user].entries]

    def _create(self, sender, recipient, lines, via, time):
        """Add a new item of this host to the queue, and return its tag."""
        self.serial = self.serial + 1
        return self._enqueue((self.domain, self.serial, 0), sender, recipient, lines, via, time)

    def _enqueue(self, tag, sender, recipient, lines, via, time):
        """Add an item that was not tried yet to the queue, and return its tag."""
        self.queue[tag] = Item(tag, sender, recipient, lines, via, time, 0, time, None)
        return tag

    def _traced(self, lines):
        """Return a message with the trace of this host before it."""
        return (trace(self.domain), *lines)

    def _submit(self, sender, recipients, lines, time):
        traced = self._traced(lines)
        return [self._create(sender, recipient, traced, (), time) for recipient in recipients]

    def _take(self, peer, tag, sender, recipient, via, lines, time):
        self.taken[tag] = peer
        return [self._enqueue(tag, sender, recipient, self._traced(lines), via, time)]

    def _doubt(self, tag, peer):
        item = self.queue[tag]
        item.doubt = peer
        return []

    def _retry(self, tag, tries, due):
        item = self.queue[tag]
        item.tries = tries
        item.due = due
        item.doubt = None
        return []

    def _passed(self, tag, peer):
        self.queue.pop(tag)
        self.owed[next_leg(tag)] = peer
        return []

    def _forgotten(self, tag):
        self.owed.pop(tag, None)
        return []

    def _forget(self, tag):
        self.taken.pop(tag, None)
        return []

    def _deliver(self, tag, user):
        item = self.queue.pop(tag)
        if user not in self.boxes:
            self.boxes[user] = Box()
        self.boxes[user].deliver(item.lines)
        return []

    def _expand(self, tag, owner, members, time):
        item = self.queue.pop(tag)
        # An empty sender stays empty, so that no report about a report goes to the owner.
        sender = item.sender if owner is None or item.sender is None else owner
        via = (*item.via, item.recipient)
        return [self._create(sender, member, item.lines, via, time) for member in members]

    def _bounce(self, tag, reason, time):
        item = self.queue.pop(tag)
        if item.sender is None:
            return []
        lines = self._traced(report(item.recipient, reason))
        return [self._create(None, item.sender, lines, (), time)]

    def _flag(self, user, number, flags):
        self._box(user).set_flags(number, flags)
        return []

    def _expunge(self, user, number):
        self._box(user).expunge(number)
        return []

    def _box(self, user):
        """Return the box of a user, or raise NoSuchEntry if there is none yet."""
        if user not in self.boxes:
            raise NoSuchEntry(f"the user {user} has no box")
        return self.boxes[user]


def next_leg(tag):
    """Return the tag that an item gets at the host that it is passed to."""
    host, serial, leg = tag
    return (host, serial, leg + 1)


def state_of(value):
    """Return the state whose value it is."""
    domain, count, serial, items, boxes, taken, owed = value
    state = State(domain)
    state.count = count
    state.serial = serial
    state.queue = {details[0]: Item(*details) for details in items}
    state.boxes = {user: box_of(inner) for user, inner in boxes}
    state.taken = {tag: peer for tag, peer in taken}
    state.owed = {tag: peer for tag, peer in owed}
    return state
