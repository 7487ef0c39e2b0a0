"""Worlds: hosts, a time, and connections with lines on their way, changed by moves."""

from dawkline.errors import PowerCut, Refused
from dawkline.sender import Sender, View
from dawkline.session import Session


class Connection:
    """A connection that a client has just opened to a server."""

    def __init__(self, client, server):
        self.client = client
        self.server = server
        self.to_server = []
        self.to_client = []
        self.sender = Sender(server)
        self.session = Session(server)
        self.is_cut = False


class World:
    """Hosts that are down; the world starts them."""

    def __init__(self, hosts):
        self.now = 0
        self.hosts = {host.directory.domain: host for host in hosts}
        self.connections = []
        # The domains of the hosts that are down and whose disk has crashed since.
        self._crashed = {}
        for host in hosts:
            try:
                host.start()
            except PowerCut:
                continue

    def move(self, move):
        """Perform a move and return True, or return False if it is not possible."""
        moves = {
            "submit": self._submit,
            "work": self._work,
            "connect": self._connect,
            "to_server": self._arrive_at_server,
            "to_client": self._arrive_at_client,
            "cut": self._cut,
            "power": self._limit_power,
            "crash": self._crash,
            "start": self._start,
            "checkpoint": self._checkpoint,
            "tick": self._tick,
            "route": self._change_routes,
            "flag": self._flag,
            "expunge": self._expunge,
        }
        if move[0] not in moves:
            return False
        perform = moves[move[0]]
        details = move[1:]
        try:
            return perform(*details)
        except PowerCut:
            self._end_dialogues_of_the_fallen()
            return True

    def busy_tags(self, client, peer):
        """Return the tags on which senders of a host are working that talk to others than the peer."""
        senders = [
            connection.sender
            for connection in self.connections
            if connection.client == client and connection.server != peer and connection.sender is not None
        ]
        return tuple([sender.working for sender in senders if sender.working is not None])

    def _is_up(self, domain):
        """Return True if there is a host with this domain, and it is up, otherwise False."""
        return domain in self.hosts and self.hosts[domain].up

    def _submit(self, domain, sender, recipients, lines):
        if not self._is_up(domain):
            return False
        try:
            self.hosts[domain].submit(sender, recipients, lines, self.now)
        except Refused:
            return False
        return True

    def _work(self, domain):
        if not self._is_up(domain):
            return False
        host = self.hosts[domain]
        event = host.next_work(self.now, self.busy_tags(domain, None))
        if event is None:
            return False
        host.add(event)
        return True

    def _connect(self, client, server):
        if client == server or not self._is_up(client) or not self._is_up(server):
            return False
        for older in self.connections:
            if older.client == client and older.server == server:
                self._cut_off(older)
        connection = Connection(client, server)
        connection.to_client.append(connection.session.greeting())
        self.connections.append(connection)
        return True

    def _arrive_at_server(self, number):
        if not self._has_connection(number) or self.connections[number].to_server == []:
            return False
        connection = self.connections[number]
        line = connection.to_server.pop(0)
        if not connection.session.over:
            self._serve(connection, line)
        return True

    def _serve(self, connection, line):
        """Let the session of a connection receive a line, and put its reply on the way."""
        host = self.hosts[connection.server]
        session = connection.session
        event, reply = session.receive(line, host.state, host.directory, host.limits, self.now)
        if line.startswith("HELO ") and session.peer is not None:
            self._end_other_sessions(connection)
        if event is not None:
            host.add(event)
        if reply is not None and connection.sender is not None:
            connection.to_client.append(reply)

    def _end_other_sessions(self, connection):
        """End the other sessions of a server with the client that has said HELO on a connection."""
        # A HELO that belongs to a message or is invalid ends none: an earlier one has done that.
        peer = connection.session.peer
        for other in self.connections:
            if other != connection and other.server == connection.server and other.session.peer == peer:
                other.session.end()

    def _arrive_at_client(self, number):
        if not self._has_connection(number) or self.connections[number].to_client == []:
            return False
        connection = self.connections[number]
        line = connection.to_client.pop(0)
        if connection.sender is not None:
            self._inform(connection, line)
        return True

    def _inform(self, connection, line):
        """Let the sender of a connection receive a line, and perform the steps that follow."""
        sender = connection.sender
        host = self.hosts[connection.client]
        busy = self.busy_tags(connection.client, connection.server)
        view = View(host.state, host.directory, host.routes, host.limits, self.now, busy)
        self._perform(connection, sender.receive(line, view))
        if sender.idle:
            self._perform(connection, sender.next_task(view))
        if sender.over:
            self._end_for_client(connection)

    def _perform(self, connection, steps):
        """Perform the steps of the sender of a connection in order."""
        for word, what in steps:
            if word == "send":
                connection.to_server.append(what)
            else:
                self.hosts[connection.client].add(what)

    def _cut(self, number):
        if not self._has_connection(number) or self.connections[number].is_cut:
            return False
        self._cut_off(self.connections[number])
        return True

    def _cut_off(self, connection):
        """Cut a connection: lines on their way to the server still arrive."""
        connection.is_cut = True
        self._end_for_client(connection)

    def _end_for_client(self, connection):
        """End a connection for the client: lines on their way to it are lost."""
        connection.sender = None
        connection.to_client.clear()

    def _limit_power(self, domain, steps):
        if not self._is_up(domain):
            return False
        self.hosts[domain].disk.limit(steps)
        return True

    def _crash(self, domain, a, b):
        if domain not in self.hosts:
            return False
        self.hosts[domain].fall()
        self._end_dialogues(domain)
        self.hosts[domain].disk.crash(a, b)
        self._crashed[domain] = True
        return True

    def _start(self, domain):
        if domain not in self._crashed or self.hosts[domain].up:
            return False
        # If its power ends in the start, the host goes down anew, and its disk has to crash anew.
        del self._crashed[domain]
        self.hosts[domain].start()
        return True

    def _checkpoint(self, domain):
        if not self._is_up(domain):
            return False
        self.hosts[domain].checkpoint()
        return True

    def _tick(self, ticks):
        if ticks < 1:
            return False
        self.now = self.now + ticks
        return True

    def _change_routes(self, domain, routes):
        if domain not in self.hosts:
            return False
        host = self.hosts[domain]
        host.routes = routes
        return True

    def _flag(self, domain, user, number, flags):
        return self._change_entry(domain, user, number, ("flag", user, number, flags))

    def _expunge(self, domain, user, number):
        return self._change_entry(domain, user, number, ("expunge", user, number))

    def _change_entry(self, domain, user, number, event):
        """Add an event about an entry and return True, or return False if it is not possible."""
        if not self._is_up(domain) or not self.hosts[domain].state.has_entry(user, number):
            return False
        self.hosts[domain].add(event)
        return True

    def _end_dialogues_of_the_fallen(self):
        """End the dialogues of the host that has gone down because its power ended."""
        for domain, host in self.hosts.items():
            if not host.up:
                self._end_dialogues(domain)

    def _end_dialogues(self, domain):
        """End the senders and the sessions of a host that has gone down."""
        for connection in self.connections:
            if connection.client == domain:
                self._cut_off(connection)
            if connection.server == domain:
                connection.session.end()

    def _has_connection(self, number):
        """Return True if a connection has this number, otherwise False."""
        return 0 <= number < len(self.connections)
