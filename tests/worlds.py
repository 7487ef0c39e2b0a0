"""What the tests of whole worlds share: hosts, and a ledger that sees every event of every host."""

from dawkline.directory import Directory
from dawkline.host import Host
from dawkline.judge import custody
from dawkline.journal import Journal
from dawkline.sender import Limits
from dawkline.settling import at_rest, settle
from dawkline.state import State, state_of
from dawkline.world import World

LIMITS = Limits(60, (4, 9), 6, 8, 30)
OUTCOMES = ("deliver", "expand", "bounce")


def make_host(domain, users=("ann", "bob"), lists=(), routes=(), limits=LIMITS):
    """Return a host that is down."""
    return Host(Directory(domain, users, lists), routes, limits)


def world_of_two(limits=LIMITS, lists=()):
    """Return a world of the hosts a and b, each the route of the other."""
    return World([make_host("a", routes=(("b", ("b",)),), lists=lists, limits=limits),
                  make_host("b", routes=(("a", ("a",)),), limits=limits)])


def state_on_disk(host):
    """Return the state that a host would have if it started now."""
    journal = Journal(host.disk)
    state = State(host.directory.domain) if journal.value is None else state_of(journal.value)
    for event in journal.events:
        state.apply(event)
    return state


def run_dialogue(world, number, stop=None):
    """Let all lines of a connection arrive, or only so many; return the number of lines that arrived."""
    arrived = 0
    while arrived != stop and (world.move(("to_client", number)) or world.move(("to_server", number))):
        arrived += 1
    return arrived


def everything(world):
    """Return all that a world shows: what a move that is not possible must leave as it is."""
    hosts = {domain: (host.up, host.state.to_value() if host.up else None, host.directory, host.routes, host.limits,
                      [host.disk.content(file) for file in (0, 1)], [host.disk.pending(file) for file in (0, 1)])
             for domain, host in world.hosts.items()}
    connections = [(each.client, each.server, list(each.to_server), list(each.to_client), each.is_cut,
                    each.sender and (each.sender.idle, each.sender.working, each.sender.over),
                    each.session.peer, each.session.over) for each in world.connections]
    return (world.now, hosts, connections)


class Ledger:
    """All events of all hosts, by host and count; it has to be there before the world is made.

    An event whose call was cut may be on the disk or not: the ledger sees it when the host starts. An
    event that was seen once must be seen again at each start.
    """

    def __init__(self, test):
        self.test = test
        self.events = {}
        original = State.apply

        def apply(state, event):
            tags = original(state, event)
            self.record(state.domain, state.count, event, tags)
            return tags

        State.apply = apply
        test.addCleanup(setattr, State, "apply", original)

    def record(self, domain, count, event, tags):
        known = self.events.setdefault((domain, count), (event, tags))
        self.test.assertEqual(known, (event, tags), "an event was lost or changed")

    def created(self):
        """Return a dict from (host, serial) to the event that created the item, as (host, count)."""
        found = {}
        for place, (event, tags) in self.events.items():
            if event[0] != "take":
                for tag in tags:
                    self.test.assertNotIn(tag[:2], found, "a serial was given twice")
                    found[tag[:2]] = place
        return found

    def outcomes(self):
        """Return a dict from (host, serial) to the places of the events that ended the item."""
        found = {origin: [] for origin in self.created()}
        for place, (event, _) in self.events.items():
            if event[0] in OUTCOMES:
                found[event[1][:2]].append(place)
        return found

    def check_now(self, world):
        """Check promises 44 and 45 at a moment at which each host is up or has crashed."""
        queues = {domain: (host.state if host.up else state_on_disk(host)).queue
                  for domain, host in world.hosts.items()}
        self.check_reports()
        for origin, ends in self.outcomes().items():
            self.test.assertLessEqual(len(ends), 1, origin)
            items = sorted((item.tag, domain, item.doubt) for domain, queue in queues.items()
                           for item in queue.values() if item.tag[:2] == origin)
            if not ends:
                self.test.assertNotEqual(items, [], origin)
                self.test.assertNotIn(items[-1][0], [tag for tag, _, _ in items[:-1]])
                items.pop()
            for _, _, doubt in items:
                self.test.assertIsNotNone(doubt, origin)

    def check_reports(self):
        """Check that an item without a sender created no item by bounce, and any other one exactly one."""
        senders = self.senders()
        for event, tags in self.events.values():
            if event[0] == "bounce":
                expected = 0 if senders[event[1][:2]] is None else 1
                self.test.assertEqual(len(tags), expected, event)

    def senders(self):
        """Return a dict from (host, serial) to the sender of the item."""
        found = {}
        for domain, count in sorted(self.events):
            event, tags = self.events[domain, count]
            if event[0] == "submit":
                found.update({tag[:2]: event[1] for tag in tags})
            elif event[0] == "bounce":
                found.update({tag[:2]: None for tag in tags})
        pending = [(event, tags) for event, tags in self.events.values() if event[0] == "expand" and tags]
        while pending:
            event, tags = pending.pop(0)
            if event[1][:2] not in found:
                pending.append((event, tags))
                continue
            sender = found[event[1][:2]]
            found.update({tag[:2]: event[2] if event[2] is not None and sender is not None else sender
                          for tag in tags})
        return found

    def check_rest(self, world):
        """Check what holds when a world is at rest: each item had one outcome, the boxes have what was delivered."""
        self.test.assertTrue(at_rest(world))
        self.test.assertEqual(custody(world), [])
        self.check_now(world)
        for origin, ends in self.outcomes().items():
            self.test.assertEqual(len(ends), 1, origin)
        delivered = {}
        for (domain, _), (event, _) in sorted(self.events.items(), key=lambda pair: pair[0]):
            if event[0] == "deliver":
                delivered[domain, event[2]] = delivered.get((domain, event[2]), 0) + 1
        boxes = {(domain, user): box.number for domain, host in world.hosts.items()
                 for user, box in host.state.boxes.items()}
        self.test.assertEqual(boxes, delivered)

    def settle(self, world):
        """Settle a world, and check that it ends at rest, where it stays."""
        rounds = settle(world, 1000)
        self.test.assertLess(rounds, 1000)
        self.check_rest(world)
        before = everything_but_connections(world)
        self.test.assertEqual(settle(world, 5), 1)
        self.test.assertEqual(everything_but_connections(world), before)


def everything_but_connections(world):
    return everything(world)[:2]


def messages_in(world, domain, user):
    """Return the messages in a box, each without its traces."""
    host = world.hosts[domain]
    if user not in host.state.boxes:
        return []
    return [tuple(line for line in entry[1] if not line.startswith("Received: by "))
            for entry in host.state.boxes[user].entries]


def report_about(recipient, reason):
    """Return the message that a report leads to, without its traces."""
    return ("Subject: undelivered", "", "Recipient: " + recipient, "Reason: " + reason)
