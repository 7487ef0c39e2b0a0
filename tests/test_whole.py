"""Promises 1, 15, 23, 27, 31 and 43 to 45 over whole worlds, through moves of all kinds, then settling.

The ledger (tests/worlds.py) sees every event of every host. At each moment at which each host is up or has
crashed it checks promises 44 and 45; behind settling it checks that each item had exactly one outcome.
"""

import random
import unittest

from dawkline.judge import custody, holders
from dawkline.settling import at_rest, settle
from dawkline.sender import Limits
from dawkline.world import World
from worlds import (LIMITS, Ledger, everything, make_host, messages_in, report_about, run_dialogue,
                    world_of_two)

ANN, BOB = ("ann", "a"), ("bob", "b")
LINES = ("To: bob", "", ".dots", "end")


class Whole(unittest.TestCase):
    def setUp(self):
        self.ledger = Ledger(self)

    def anew(self):
        """Begin with an empty ledger, for one more world."""
        self.doCleanups()
        self.ledger = Ledger(self)

    def moves(self, world, *moves):
        """Perform moves that are possible."""
        for move in moves:
            self.assertIs(world.move(move), True, move)

    def world_with_a_message(self, sender=ANN, recipient=BOB):
        """Return a world of the hosts a and b in which a has a message for b."""
        self.anew()
        world = world_of_two()
        self.moves(world, ("submit", "a", sender, (recipient,), LINES))
        return world

    def check_one_message(self, world):
        """Settle a world with one message, and check that it reached bob once, or ann got one report."""
        self.ledger.settle(world)
        inbox, reports = messages_in(world, "b", "bob"), messages_in(world, "a", "ann")
        self.assertIn((inbox, reports), [([LINES], []), ([], [report_about("bob@b", "expired")])])
        return inbox == [LINES]

    def revive(self, world, domain, a, b):
        """Let a host crash and start."""
        self.moves(world, ("crash", domain, a, b), ("start", domain))


class OneMessage(Whole):
    """A message from ann@a to bob@b, disturbed once at each place where that can happen."""

    def length(self):
        """Return the number of lines of the whole dialogue."""
        world = self.world_with_a_message()
        self.moves(world, ("connect", "a", "b"))
        return run_dialogue(world, 0)

    def test_undisturbed(self):
        world = self.world_with_a_message()
        self.moves(world, ("connect", "a", "b"))
        self.assertEqual(run_dialogue(world, 0), 24)
        self.assertTrue(self.check_one_message(world))

    def test_a_cut_at_every_line(self):
        for arrived in range(self.length() + 1):
            for again in (False, True):
                world = self.world_with_a_message()
                self.moves(world, ("connect", "a", "b"))
                run_dialogue(world, 0, arrived)
                self.ledger.check_now(world)
                self.moves(world, ("cut", 0))
                if again:
                    self.moves(world, ("connect", "a", "b"))
                    run_dialogue(world, 1)
                self.ledger.check_now(world)
                self.assertTrue(self.check_one_message(world))

    def test_a_cut_after_which_lines_still_arrive(self):
        for arrived in range(self.length()):
            for late in range(8):
                for mixed in range(4):
                    world = self.world_with_a_message()
                    self.moves(world, ("connect", "a", "b"))
                    run_dialogue(world, 0, arrived)
                    self.moves(world, ("connect", "a", "b"))
                    run_dialogue(world, 1, mixed)
                    for _ in range(late):
                        world.move(("to_server", 0))
                    self.ledger.check_now(world)
                    run_dialogue(world, 1)
                    self.ledger.check_now(world)
                    self.assertTrue(self.check_one_message(world))

    def test_a_fall_of_each_host_at_every_line(self):
        for arrived in range(self.length() + 1):
            for domain in ("a", "b"):
                for again in (False, True):
                    world = self.world_with_a_message()
                    self.moves(world, ("connect", "a", "b"))
                    run_dialogue(world, 0, arrived)
                    self.revive(world, domain, 0, 0)
                    self.ledger.check_now(world)
                    if again:
                        self.moves(world, ("connect", "a", "b"))
                        run_dialogue(world, 1)
                    self.ledger.check_now(world)
                    self.assertTrue(self.check_one_message(world))

    def steps_of(self, domain):
        """Return the number of steps of the disk of a host in an undisturbed dialogue."""
        steps = 0
        while True:
            world = self.world_with_a_message()
            self.moves(world, ("connect", "a", "b"), ("power", domain, steps))
            run_dialogue(world, 0)
            if world.hosts[domain].up:
                return steps
            steps += 1

    def test_a_power_cut_at_every_step_of_a_dialogue(self):
        for domain in ("a", "b"):
            for steps in range(self.steps_of(domain) + 1):
                for kept in (0, 1, 2, 10 ** 6):
                    world = self.world_with_a_message()
                    self.moves(world, ("connect", "a", "b"), ("power", domain, steps))
                    run_dialogue(world, 0)
                    if world.hosts[domain].up:
                        continue
                    self.assertTrue(world.connections[0].is_cut or domain == "b")
                    self.revive(world, domain, kept, kept)
                    self.ledger.check_now(world)
                    self.moves(world, ("connect", "a", "b"))
                    run_dialogue(world, 1)
                    self.ledger.check_now(world)
                    self.assertTrue(self.check_one_message(world))

    def test_a_power_cut_followed_by_every_crash(self):
        """The pending steps of the event that was cut take effect one by one more."""
        for domain in ("a", "b"):
            for steps in range(0, self.steps_of(domain), 7):
                kept = 0
                while True:
                    world = self.world_with_a_message()
                    self.moves(world, ("connect", "a", "b"), ("power", domain, steps))
                    run_dialogue(world, 0)
                    host = world.hosts[domain]
                    self.assertFalse(host.up)
                    pending = [host.disk.pending(file) for file in (0, 1)]
                    self.revive(world, domain, min(kept, pending[0]), min(kept, pending[1]))
                    self.ledger.check_now(world)
                    self.assertTrue(self.check_one_message(world))
                    kept += 1
                    if kept > max(pending):
                        break

    def test_a_reply_that_was_lost_at_the_dot(self):
        world = self.world_with_a_message()
        self.moves(world, ("connect", "a", "b"))
        while world.connections[0].to_server != ["."]:
            run_dialogue(world, 0, 1)
        self.moves(world, ("cut", 0), ("to_server", 0))
        self.assertEqual(custody(world), [("a", ("a", 1, 0), "b"), ("b", ("a", 1, 1), None)])
        self.assertEqual(holders(world), {("a", 1): [("a", 1, 0), ("a", 1, 1)]})
        self.ledger.check_now(world)
        self.moves(world, ("work", "b"))
        self.assertEqual(messages_in(world, "b", "bob"), [LINES])
        self.ledger.check_now(world)
        self.assertTrue(self.check_one_message(world))

    def test_an_answer_that_the_item_was_never_taken_is_final(self):
        """The line with the dot is still on its way in an older connection when the client asks."""
        world = self.world_with_a_message()
        self.moves(world, ("connect", "a", "b"))
        while world.connections[0].to_server != ["."]:
            run_dialogue(world, 0, 1)
        self.moves(world, ("connect", "a", "b"))
        run_dialogue(world, 1)
        item = world.hosts["a"].state.queue["a", 1, 0]
        self.assertEqual((item.doubt, item.tries, item.due), (None, 1, 4))
        self.moves(world, ("to_server", 0))
        self.assertEqual(world.hosts["b"].state.taken, {})
        self.assertEqual(custody(world), [("a", ("a", 1, 0), None)])
        self.assertTrue(self.check_one_message(world))

    def test_an_item_in_doubt_waits_for_its_answer(self):
        """Promise 23: it is not delivered, passed to a third host, or given up."""
        self.anew()
        world = World([make_host("a", routes=(("b", ("c", "b")),)), make_host("b", routes=(("a", ("a",)),)),
                       make_host("c", routes=(("b", ("b",)), ("a", ("a",))))])
        self.moves(world, ("submit", "a", ANN, (BOB,), LINES), ("connect", "a", "c"))
        while world.connections[0].to_server != ["."]:
            run_dialogue(world, 0, 1)
        self.moves(world, ("crash", "c", 0, 0), ("cut", 0), ("tick", 1000), ("route", "a", ()))
        self.assertEqual(custody(world), [("a", ("a", 1, 0), "c")])
        self.assertFalse(world.move(("work", "a")))
        self.moves(world, ("connect", "a", "b"))
        run_dialogue(world, 1)
        self.assertEqual(custody(world), [("a", ("a", 1, 0), "c")])
        self.ledger.settle(world)
        self.assertEqual(messages_in(world, "a", "ann"), [report_about("bob@b", "no route")])


class Weather:
    """Random moves that make dialogues go on and disturb them now and then."""

    def __init__(self, seed):
        self.chance = random.Random(seed)
        self.names = ("a", "b", "c")[:self.chance.choice((2, 3))]
        self.rough = self.chance.choice((0, 1, 2, 4, 8))
        self.messages = 0

    def world(self):
        """Return a world of two or three hosts with lists that may loop and routes that may detour."""
        chance = self.chance
        hosts = []
        for name in self.names:
            owner = chance.choice((None, ("ann", chance.choice(self.names)), ("all", name)))
            members = tuple((chance.choice(("ann", "all", "nobody")), chance.choice(self.names))
                            for _ in range(chance.randrange(4)))
            limits = Limits(chance.choice((20, 60)), chance.choice(((3,), (1, 5, 9))), chance.choice((3, 6, 9)),
                            chance.choice((5, 9)), chance.choice((3, 8, 30)))
            hosts.append(make_host(name, lists=(("all", owner, members),), routes=self.routes(name), limits=limits))
        return World(hosts)

    def routes(self, name):
        chance = self.chance
        found = []
        for other in self.names:
            hops = [hop for hop in self.names if hop != name]
            chance.shuffle(hops)
            hops = hops[:chance.randrange(1, 3)]
            if chance.random() < 0.1:
                hops.insert(chance.randrange(2), chance.choice((name, "ghost")))
            found.append((other, tuple(hops)))
        if chance.random() < 0.3:
            found.append(("", (chance.choice(self.names),)))
        return tuple(found)

    def address(self):
        return (self.chance.choice(("ann", "bob", "all", "nobody")), self.chance.choice(self.names + ("far",)))

    def move(self, world):
        """Return a move that is mostly possible."""
        chance = self.chance
        down = [name for name in self.names if not world.hosts[name].up]
        if down and chance.random() < 0.3:
            name = chance.choice(down)
            return chance.choice((("crash", name, chance.randrange(40), chance.randrange(40)), ("start", name)))
        if chance.random() < 0.01 * self.rough:
            return self.disturbance(world)
        ways = [(way, number) for number, each in enumerate(world.connections)
                for way, lines in (("to_server", each.to_server), ("to_client", each.to_client)) if lines]
        if ways and chance.random() < 0.85:
            return chance.choice(ways)
        return self.activity(world)

    def disturbance(self, world):
        chance = self.chance
        name = chance.choice(self.names)
        return chance.choice((
            ("crash", name, chance.randrange(40), chance.randrange(40)), ("power", name, chance.randrange(200)),
            ("cut", max(0, len(world.connections) - 1 - chance.randrange(3))),
            ("connect", name, chance.choice(self.names)), ("tick", chance.randrange(1, 30)),
            ("route", name, self.routes(name))))

    def activity(self, world):
        chance = self.chance
        name = chance.choice(self.names)
        word = chance.choice(("submit", "work", "work", "connect", "connect", "checkpoint", "tick", "flag", "expunge"))
        if word == "submit":
            self.messages += 1
            sender = chance.choice((None, ("ann", chance.choice(self.names)), ("ann", "far")))
            recipients = tuple(self.address() for _ in range(chance.randrange(1, 4)))
            lines = ("Id: %d" % self.messages, "", ".") + ("x",) * chance.randrange(4)
            return ("submit", name, sender, recipients, lines)
        if word == "connect" and world.hosts[name].up:
            wanted = world.hosts[name].peers(world.now, ())
            if wanted:
                return ("connect", name, chance.choice(wanted))
        if word == "connect":
            return ("connect", name, chance.choice(self.names))
        if word == "tick":
            return ("tick", chance.randrange(1, 3))
        if word == "flag":
            return ("flag", name, "ann", chance.randrange(4), ("seen",))
        if word == "expunge":
            return ("expunge", name, "bob", chance.randrange(3))
        return (word, name)


class ManyMoves(Whole):
    """Random moves of all kinds; each seed is one run that can be repeated."""

    def run_one(self, seed):
        self.anew()
        weather = Weather(seed)
        world = weather.world()
        crashed = set()
        for _ in range(weather.chance.randrange(50, 500)):
            move = weather.move(world)
            before = everything(world)
            if not world.move(move):
                self.assertEqual(everything(world), before, move)
            elif move[0] == "crash":
                crashed.add(move[1])
            crashed -= {name for name in weather.names if world.hosts[name].up}
            if all(world.hosts[name].up or name in crashed for name in weather.names):
                self.ledger.check_now(world)
        return world

    def test_many_runs(self):
        seen = {}
        for seed in range(150):
            with self.subTest(seed=seed):
                world = self.run_one(seed)
                for event, _ in self.ledger.events.values():
                    seen[event[0]] = seen.get(event[0], 0) + 1
                self.ledger.settle(world)
        # All kinds of events came up in the runs themselves, before settling.
        for word in ("submit", "take", "doubt", "retry", "passed", "forgotten", "forget", "deliver", "expand",
                     "bounce", "flag", "expunge"):
            self.assertGreater(seen.get(word, 0), 20, word)


if __name__ == "__main__":
    unittest.main()
