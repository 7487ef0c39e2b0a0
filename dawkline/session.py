"""Sessions: the server side of a dialogue."""

from dawkline.address import is_domain, parse_address, parse_path
from dawkline.errors import InvalidAddress
from dawkline.message import unstuff

DIGITS = "0123456789"
MOST_DIGITS = 9
OFFER_PARTS = ("FROM", "TO", "VIA")
TAKEN = "251 taken"
OK = "250 ok"
ORDER = "503 order"


class Session:
    """A session of the server with this domain."""

    def __init__(self, domain):
        self.peer = None
        self.over = False
        self._domain = domain
        # The tag of the offer, if one has started, and what FROM, TO and VIA said in it.
        self._tag = None
        self._parts = {}
        # The lines of the message so far, but None where commands are expected.
        self._lines = None

    def greeting(self):
        """Return the first line of the server."""
        return f"220 {self._domain}"

    def end(self):
        """End the session."""
        self.over = True

    def receive(self, line, state, directory, limits, now):
        """Return (event, reply) for a line: what is to be added first, and the answer, or None."""
        if self.over:
            return (None, None)
        if self._lines is None:
            return self._obey(line, state, directory)
        if line == ".":
            return self._finish_message(state, limits, now)
        self._lines.append(unstuff(line))
        return (None, None)

    def _obey(self, line, state, directory):
        """Return (event, reply) for a command."""
        command = parse_command(line)
        if command is None:
            return (None, "500 unknown")
        word, value = command
        if word == "HELO":
            return (None, self._helo(value))
        if word == "QUIT":
            self.end()
            return (None, "221 bye")
        if self.peer is None:
            return (None, ORDER)
        if word == "OFFER":
            return (None, self._start_offer(value, state))
        if word == "ASK":
            return (None, TAKEN if value in state.taken else "252 never")
        if word == "FORGET":
            event = ("forget", value) if value in state.taken else None
            return (event, OK)
        return (None, self._go_on(word, value, directory))

    def _helo(self, domain):
        """Make a host the client, and return the reply."""
        self.peer = domain
        self._end_offer()
        return f"250 {self._domain}"

    def _start_offer(self, tag, state):
        """Start an offer unless its tag was taken, and return the reply."""
        self._end_offer()
        if tag in state.taken:
            return TAKEN
        self._tag = tag
        return "250 go"

    def _end_offer(self):
        """Forget the offer, if any, with all that was said in it."""
        self._tag = None
        self._parts = {}
        self._lines = None

    def _go_on(self, word, value, directory):
        """Return the reply to FROM, TO, VIA or DATA, which belong to an offer."""
        if self._tag is None or word in self._parts:
            return ORDER
        if word == "DATA":
            return self._start_message()
        if word == "TO" and directory.lookup(value) == ("unknown",):
            self._end_offer()
            return "550 unknown"
        self._parts[word] = value
        return OK

    def _start_message(self):
        """Expect the lines of a message if the offer is complete, and return the reply."""
        if not all([part in self._parts for part in OFFER_PARTS]):
            return ORDER
        self._lines = []
        return "354 go"

    def _finish_message(self, state, limits, now):
        """Return (event, reply) for the line with one dot."""
        tag = self._tag
        lines = tuple(self._lines)
        sender, recipient, via = [self._parts[part] for part in OFFER_PARTS]
        self._end_offer()
        if tag in state.taken:
            return (None, TAKEN)
        if len(lines) > limits.most_lines:
            return (None, "552 long")
        if len(state.queue) >= limits.most_items:
            return (None, "452 full")
        return (("take", self.peer, tag, sender, recipient, via, lines, now), "250 taken")


def parse_command(line):
    """Return (word, value) of a command in one of the known forms, or None for another line."""
    word, *rest = line.split(" ")
    try:
        if word == "VIA":
            return (word, tuple([parse_address(text) for text in rest]))
        if word == "FROM" and len(rest) == 1:
            return (word, parse_path(rest[0]))
        if word == "TO" and len(rest) == 1 and rest[0] != "<>":
            return (word, parse_path(rest[0]))
    except InvalidAddress:
        return None
    if word == "HELO" and len(rest) == 1 and is_domain(rest[0]):
        return (word, rest[0])
    if word in ("OFFER", "ASK", "FORGET") and is_written_tag(rest):
        return (word, (rest[0], int(rest[1]), int(rest[2])))
    if word in ("DATA", "QUIT") and rest == []:
        return (word, None)
    return None


def is_written_tag(words):
    """Return True if words are a domain, a serial and a leg, otherwise False."""
    return len(words) == 3 and is_domain(words[0]) and is_number(words[1]) and is_number(words[2])


def is_number(text):
    """Return True if a string writes an integer from 1 as a command does, otherwise False."""
    if not 1 <= len(text) <= MOST_DIGITS or text.startswith("0"):
        return False
    return all([sign in DIGITS for sign in text])
