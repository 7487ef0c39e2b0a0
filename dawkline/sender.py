"""Senders: the client side of a dialogue, and when an item is ready to be passed on."""

from dawkline.address import format_address, format_path
from dawkline.directory import route
from dawkline.message import hops, stuff
from dawkline.state import next_leg

DIGITS = "0123456789"
GREETING = "greeting"
# Which reply to a command of the task OFFER makes the sender go on with that task.
GOING_ON = {"OFFER": "250", "FROM": "250", "TO": "250", "VIA": "250", "DATA": "354"}
# After which commands of the task OFFER, with which replies, the server has the item.
HAS_TAKEN = (("OFFER", "251"), (".", "250"), (".", "251"))


class Limits:
    """The limits of a host."""

    def __init__(self, lifetime, waits, most_hops, most_lines, most_items):
        self.lifetime = lifetime
        self.waits = waits
        self.most_hops = most_hops
        self.most_lines = most_lines
        self.most_items = most_items


class View:
    """What a sender sees of its host; busy are the tags on which other senders are working."""

    def __init__(self, state, directory, routes, limits, now, busy):
        self.state = state
        self.directory = directory
        self.routes = routes
        self.limits = limits
        self.now = now
        self.busy = busy


class Sender:
    """The client side of a connection to a peer."""

    def __init__(self, peer):
        self.peer = peer
        self.over = False
        self.idle = False
        self.working = None
        # The command whose reply is awaited, and the tag of the task to which it belongs.
        self._awaited = GREETING
        self._tag = None
        # The tasks that were tried in this connection, as pairs of command and tag.
        self._tried = {}

    def receive(self, reply, view):
        """Return the steps that follow a reply."""
        if self.over:
            return []
        if ends_connection(self._awaited, reply):
            self._end()
            return []
        if self.idle:
            return []
        if self._awaited == GREETING:
            return self._send("HELO", f"HELO {view.state.domain}")
        if self._awaited == "HELO":
            return self._finish([])
        if self._awaited == "FORGET":
            return self._finish([("forgotten", self._tag)] if reply.startswith("2") else [])
        if self._awaited == "ASK":
            return self._finish(self._after_ask(reply, view))
        return self._after_offer(reply, view)

    def next_task(self, view):
        """Return the steps that start the next task."""
        tag = self._owed_tag(view)
        if tag is not None:
            return self._start("FORGET", tag, tag)
        tag = self._doubtful_tag(view)
        if tag is not None:
            return self._work("ASK", tag)
        tag = self._ready_tag(view)
        if tag is not None:
            return self._work("OFFER", tag)
        return self._send("QUIT", "QUIT")

    def _owed_tag(self, view):
        """Return the smallest tag that the peer may forget, or None."""
        owed = view.state.owed
        return self._smallest("FORGET", [tag for tag in owed if owed[tag] == self.peer])

    def _doubtful_tag(self, view):
        """Return the smallest tag of an item about which the peer can be asked, or None."""
        queue = view.state.queue
        in_doubt = [tag for tag in queue if queue[tag].doubt == self.peer]
        return self._smallest("ASK", [tag for tag in in_doubt if tag not in view.busy])

    def _ready_tag(self, view):
        """Return the smallest tag of an item that can be offered to the peer, or None."""
        queue = view.state.queue
        for tag in sorted(queue):
            if ("OFFER", tag) not in self._tried and tag not in view.busy and self._suits(queue[tag], view):
                return tag
        return None

    def _suits(self, item, view):
        """Return True if an item is ready for the peer, otherwise False."""
        return is_ready(item, self.peer, view.now, view.directory, view.routes, view.limits)

    def _smallest(self, word, tags):
        """Return the smallest tag with which the task of this command was not tried yet, or None."""
        return min([tag for tag in tags if (word, tag) not in self._tried], default=None)

    def _work(self, word, tag):
        """Start a task in which the sender works on the item with this tag."""
        self.working = tag
        return self._start(word, tag, next_leg(tag))

    def _start(self, word, tag, written):
        """Start the task of a command and a tag, and return the step that sends the written tag."""
        self._tried[(word, tag)] = True
        self._tag = tag
        host, serial, leg = written
        return self._send(word, f"{word} {host} {serial} {leg}")

    def _send(self, word, line):
        """Await the reply to a command, and return the step that sends it."""
        self.idle = False
        self._awaited = word
        return [("send", line)]

    def _finish(self, events):
        """Rest after a task, and return the steps that add these events."""
        self.idle = True
        self.working = None
        self._awaited = None
        return [("add", event) for event in events]

    def _end(self):
        """End the client side of the connection."""
        self.over = True
        self.idle = False
        self.working = None

    def _after_ask(self, reply, view):
        """Return the events that follow a reply to ASK."""
        if reply.startswith("251"):
            return [("passed", self._tag, self.peer)]
        if reply.startswith("252"):
            return [self._retry(view)]
        return []

    def _after_offer(self, reply, view):
        """Return the steps that follow a reply to a command of the task OFFER."""
        code = reply[:3]
        if code == GOING_ON.get(self._awaited):
            return self._go_on(view.state.queue[self._tag])
        if (self._awaited, code) in HAS_TAKEN:
            return self._finish([("passed", self._tag, self.peer)])
        if code.startswith("5"):
            reason = f"refused by {self.peer}: {reply}"
            return self._finish([("bounce", self._tag, reason, view.now)])
        return self._finish([self._retry(view)])

    def _go_on(self, item):
        """Return the steps with the next command of the task OFFER, or with the message."""
        if self._awaited == "OFFER":
            return self._send("FROM", f"FROM {format_path(item.sender)}")
        if self._awaited == "FROM":
            return self._send("TO", f"TO {format_path(item.recipient)}")
        if self._awaited == "TO":
            return self._send("VIA", " ".join(["VIA"] + [format_address(address) for address in item.via]))
        if self._awaited == "VIA":
            return self._send("DATA", "DATA")
        # The doubt is in the journal before the dot, so that no fall forgets what the peer may take.
        doubt = [("add", ("doubt", self._tag, self.peer))]
        return [("send", line) for line in stuff(item.lines)] + doubt + self._send(".", ".")

    def _retry(self, view):
        """Return the event after which the item waits until it is passed again."""
        tries = view.state.queue[self._tag].tries
        waits = view.limits.waits
        wait = waits[min(tries, len(waits) - 1)]
        return ("retry", self._tag, tries + 1, view.now + wait)


def is_ready(item, host, time, directory, routes, limits):
    """Return True if an item is ready for a host, as far as no sender works on it, otherwise False."""
    if item.doubt is not None or directory.lookup(item.recipient) != ("remote",):
        return False
    if hops(item.lines) >= limits.most_hops or item.due > time:
        return False
    if time - item.born >= limits.lifetime:
        return False
    return host in route(routes, item.recipient[1])


def ends_connection(awaited, reply):
    """Return True if the connection ends for the client after such a reply, otherwise False."""
    if not is_reply(reply):
        return True
    if awaited == GREETING:
        return not reply.startswith("220 ")
    if awaited == "HELO":
        return not reply.startswith("2")
    return awaited == "QUIT"


def is_reply(line):
    """Return True if a line starts with three digits and a space, otherwise False."""
    return len(line) > 3 and line[3] == " " and all([sign in DIGITS for sign in line[:3]])
