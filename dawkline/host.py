"""Hosts: a state that is kept in a journal, and what is to be done with its items."""

from dawkline.directory import route
from dawkline.disk import Disk
from dawkline.errors import PowerCut, Refused
from dawkline.journal import Journal
from dawkline.message import hops
from dawkline.sender import is_ready
from dawkline.state import State, state_of


class Host:
    """A host, down at first, with a new disk."""

    def __init__(self, directory, routes, limits):
        self.directory = directory
        self.routes = routes
        self.limits = limits
        self.disk = Disk()
        self.state = None
        self.up = False
        self._journal = None

    def start(self):
        """Load the journal, go up with the state that it tells, and start a new checkpoint."""
        journal = Journal(self.disk)
        state = State(self.directory.domain) if journal.value is None else state_of(journal.value)
        for event in journal.events:
            state.apply(event)
        self._journal = journal
        self.state = state
        self.up = True
        self.checkpoint()

    def fall(self):
        """Go down: all that is not on the disk is lost."""
        self._journal = None
        self.state = None
        self.up = False

    def add(self, event):
        """Add an event to the journal, apply it, and return the list of the new tags."""
        try:
            self._journal.add(event)
        except PowerCut:
            self.fall()
            raise
        return self.state.apply(event)

    def checkpoint(self):
        """Start a new checkpoint with the state."""
        try:
            self._journal.checkpoint(self.state.to_value())
        except PowerCut:
            self.fall()
            raise

    def submit(self, sender, recipients, lines, now):
        """Accept a message and return the list of the new tags, or raise Refused."""
        if len(lines) > self.limits.most_lines:
            raise Refused("the message has too many lines")
        if len(self.state.queue) >= self.limits.most_items:
            raise Refused("the queue is full")
        if ("unknown",) in [self.directory.lookup(recipient) for recipient in recipients]:
            raise Refused("a recipient is unknown")
        return self.add(("submit", sender, recipients, lines, now))

    def next_work(self, now, busy):
        """Return the event of the next piece of local work, or None; senders work on the busy tags."""
        queue = self.state.queue
        for tag in sorted(queue):
            if queue[tag].doubt is None and tag not in busy:
                event = self._work_on(queue[tag], now)
                if event is not None:
                    return event
        return None

    def peers(self, now, busy):
        """Return the ascending tuple of the hosts that this host wants to talk to."""
        wanted = {peer: True for peer in self.state.owed.values()}
        for tag, item in self.state.queue.items():
            if item.doubt is not None:
                wanted[item.doubt] = True
            elif tag not in busy and self._is_due(item, now):
                hosts = route(self.routes, item.recipient[1])
                wanted[hosts[item.tries % len(hosts)]] = True
        return tuple([peer for peer in sorted(wanted) if peer != self.directory.domain])

    def _is_due(self, item, now):
        """Return True if an item is ready for the first host of its route, otherwise False."""
        hosts = route(self.routes, item.recipient[1])
        return len(hosts) > 0 and is_ready(item, hosts[0], now, self.directory, self.routes, self.limits)

    def _work_on(self, item, now):
        """Return the event by which this host itself handles an item, or None."""
        found = self.directory.lookup(item.recipient)
        if found[0] == "box":
            return ("deliver", item.tag, found[1])
        if found[0] == "list" and item.recipient not in item.via:
            return ("expand", item.tag, found[1], found[2], now)
        reason = self._reason_to_give_up(item, found[0], now)
        if reason is None:
            return None
        return ("bounce", item.tag, reason, now)

    def _reason_to_give_up(self, item, found, now):
        """Return why an item cannot go on from here, or None; found is the word of its lookup."""
        if found == "list":
            return "loop"
        if found == "unknown":
            return "unknown user"
        if hops(item.lines) >= self.limits.most_hops:
            return "too many hops"
        if len(route(self.routes, item.recipient[1])) == 0:
            return "no route"
        if now - item.born >= self.limits.lifetime:
            return "expired"
        return None
