"""Promises 42 and 43, and the interface section dawkline/settling.py."""

import inspect
import itertools
import unittest

from dawkline import settling
from dawkline.judge import custody
from dawkline.sender import Limits
from dawkline.settling import at_rest, settle
from dawkline.world import World
from worlds import (LIMITS, Ledger, everything, make_host, messages_in, report_about, run_dialogue,
                    world_of_two)

ANN, BOB = ("ann", "a"), ("bob", "b")
LINES = ("To: x", "", "hello")


class Settling(unittest.TestCase):
    def setUp(self):
        self.ledger = Ledger(self)
        self.world = world_of_two()

    def do(self, *moves):
        for move in moves:
            self.assertIs(self.world.move(move), True, move)

    def new_world(self, *hosts):
        self.doCleanups()
        self.ledger = Ledger(self)
        self.world = World(list(hosts))

    def settle(self, rounds, expected, rest=True, now=None):
        """Settle the world, and check the number of rounds, whether it rests, and the time."""
        self.assertEqual(settle(self.world, rounds), expected)
        self.assertIs(at_rest(self.world), rest)
        if now is not None:
            self.assertEqual(self.world.now, now)
        if rest:
            self.ledger.check_rest(self.world)

    def until(self, number, line):
        each = self.world.connections[number]
        while line not in each.to_server + each.to_client:
            self.assertEqual(run_dialogue(self.world, number, 1), 1)

    def pairs(self):
        return [(each.client, each.server) for each in self.world.connections]


class Interface(unittest.TestCase):
    def test_names_arguments_and_file(self):
        self.assertEqual(str(inspect.signature(settle)), "(world, rounds)")
        self.assertEqual(str(inspect.signature(at_rest)), "(world)")
        for found in (settle, at_rest, settling.settle):
            self.assertEqual(found.__module__, "dawkline.settling")


class Rest(Settling):
    """Promise 42: when a world is at rest."""

    def test_a_new_world(self):
        self.assertIs(at_rest(self.world), True)
        self.assertIs(at_rest(World([])), True)

    def test_a_host_that_is_down(self):
        self.do(("crash", "b", 0, 0))
        self.assertIs(at_rest(self.world), False)
        self.do(("start", "b"))
        self.assertIs(at_rest(self.world), True)

    def test_an_item(self):
        self.do(("submit", "b", None, (BOB,), LINES))
        self.assertIs(at_rest(self.world), False)
        self.do(("work", "b"))
        self.assertIs(at_rest(self.world), True)

    def test_an_entry_in_taken_and_one_in_owed(self):
        self.do(("submit", "a", None, (BOB,), LINES), ("connect", "a", "b"))
        self.until(0, "FORGET a 1 1")
        self.do(("work", "b"))
        self.assertEqual((self.world.hosts["a"].state.queue, self.world.hosts["b"].state.queue), ({}, {}))
        self.assertIs(at_rest(self.world), False)
        self.do(("to_server", 0))
        self.assertEqual(self.world.hosts["b"].state.taken, {})
        self.assertIs(at_rest(self.world), False)
        self.do(("to_client", 0))
        self.assertIs(at_rest(self.world), True)

    def test_only_an_entry_in_taken(self):
        self.world.hosts["a"].add(("take", "b", ("b", 1, 1), None, ANN, (), (), 0))
        self.do(("work", "a"))
        self.assertEqual(list(self.world.hosts["a"].state.taken), [("b", 1, 1)])
        self.assertIs(at_rest(self.world), False)

    def test_connections_and_limits_of_power_do_not_count(self):
        self.do(("connect", "a", "b"), ("power", "a", 0), ("tick", 5))
        self.assertIs(at_rest(self.world), True)

    def test_nothing_is_changed(self):
        self.do(("submit", "a", None, (BOB,), LINES), ("connect", "a", "b"))
        before = everything(self.world)
        at_rest(self.world)
        self.assertEqual(everything(self.world), before)


class Steps(Settling):
    """Promise 42: each of the six steps."""

    def test_a_world_at_rest(self):
        self.settle(5, 1, now=0)
        self.assertEqual(self.world.connections, [])
        self.new_world()
        self.settle(5, 1, now=0)

    def test_step_1_all_pending_steps_take_effect(self):
        """The event that was cut is on the disk but for its syncing, in file 0 or 1."""
        for checkpoints in (0, 1, 2):
            steps = 0
            while True:
                self.new_world(make_host("a"), make_host("b"))
                self.do(("submit", "a", None, (ANN,), LINES), *[("checkpoint", "a")] * checkpoints,
                        ("power", "a", steps), ("submit", "a", None, (ANN,), ("second",)))
                if self.world.hosts["a"].up:
                    break
                self.settle(1, 1)
                last = messages_in(self.world, "a", "ann")
                steps += 1
            self.assertEqual(last, [LINES, ("second",)])

    def test_step_1_a_host_that_crashed_before(self):
        self.do(("submit", "a", None, (ANN,), LINES), ("crash", "a", 0, 0))
        self.settle(1, 1)
        self.assertEqual(messages_in(self.world, "a", "ann"), [LINES])

    def test_step_1_the_power_of_all_hosts_is_unlimited(self):
        self.do(("submit", "a", None, (BOB,), LINES), ("power", "a", 0), ("power", "b", 3))
        self.settle(3, 1)
        self.assertEqual(messages_in(self.world, "b", "bob"), [LINES])
        self.do(("submit", "a", None, (BOB,), LINES), ("checkpoint", "b"))
        self.assertEqual([host.up for host in self.world.hosts.values()], [True, True])

    def test_step_1_a_host_that_is_up_is_not_started_anew(self):
        state = self.world.hosts["a"].state
        self.settle(1, 1)
        self.assertIs(self.world.hosts["a"].state, state)

    def test_step_2_connections_are_cut_and_lines_to_the_server_arrive(self):
        self.do(("submit", "a", None, (BOB,), LINES), ("connect", "a", "b"), ("connect", "b", "a"))
        self.until(0, ".")
        self.settle(1, 1)
        for number in (0, 1):
            each = self.world.connections[number]
            self.assertEqual((each.is_cut, each.sender, each.to_server, each.to_client), (True, None, [], []))
        self.assertEqual(self.pairs(), [("a", "b"), ("b", "a"), ("a", "b")])
        self.assertEqual(messages_in(self.world, "b", "bob"), [LINES])
        places = [event for (domain, _), (event, _) in sorted(self.ledger.events.items(), key=lambda pair: pair[0])]
        self.assertEqual([event[0] for event in places],
                         ["submit", "doubt", "passed", "forgotten", "take", "deliver", "forget"])

    def test_step_2_one_connection_after_the_other(self):
        """The lines of connection 0 arrive before the HELO of connection 1 ends its session."""
        self.do(("submit", "a", None, (BOB,), LINES), ("connect", "a", "b"))
        self.until(0, ".")
        self.do(("connect", "a", "b"), ("to_client", 1))
        self.settle(1, 1)
        self.assertNotIn("retry", [event[0] for event, _ in self.ledger.events.values()])

    def test_step_2_a_connection_that_was_cut_before(self):
        self.do(("submit", "a", None, (BOB,), LINES), ("connect", "a", "b"))
        self.until(0, ".")
        self.do(("cut", 0))
        self.settle(1, 1)
        self.assertNotIn("retry", [event[0] for event, _ in self.ledger.events.values()])

    def test_steps_3_4_and_5_in_one_round(self):
        lists = (("all", None, (BOB, ("ann", "b"))),)
        self.new_world(make_host("a", lists=lists, routes=(("b", ("b",)),)), make_host("b"))
        self.do(("submit", "a", None, (("all", "a"),), LINES))
        self.settle(1, 1)
        self.assertEqual(self.pairs(), [("a", "b")])
        self.assertEqual((messages_in(self.world, "b", "bob"), messages_in(self.world, "b", "ann")), ([LINES], [LINES]))

    def test_step_3_performs_all_local_work(self):
        self.do(("submit", "b", None, (BOB, BOB, BOB), LINES), ("submit", "a", None, (ANN, ANN), LINES))
        self.settle(1, 1)
        self.assertEqual((len(messages_in(self.world, "b", "bob")), len(messages_in(self.world, "a", "ann"))), (3, 2))
        self.assertEqual(self.world.connections, [])

    def test_step_4_the_order_of_the_hosts(self):
        """What goes from a over b to c is there in one round, what goes from c over b to a in two."""
        for first, over, last in itertools.permutations("abc"):
            self.new_world(make_host(first, routes=((last, (over,)),)), make_host(over, routes=((last, (last,)),)),
                           make_host(last))
            self.do(("submit", first, None, (("bob", last),), LINES))
            self.settle(9, 1 if over > first else 2)
            self.assertEqual(self.pairs(), [(first, over), (over, last)])

    def test_step_4_each_peer_in_order(self):
        self.new_world(make_host("a", routes=(("", ("c",)), ("b", ("b",)), ("d", ("d",)))), make_host("c"),
                       make_host("d"), make_host("b"))
        self.do(("submit", "a", None, (("bob", "d"), ("bob", "c"), ("bob", "b"), ("bob", "c")), LINES))
        self.settle(9, 1)
        self.assertEqual(self.pairs(), [("a", "b"), ("a", "c"), ("a", "d")])

    def test_step_4_a_report_waits_for_the_next_round(self):
        """The peers are those that the host wants to talk to when its turn comes."""
        self.new_world(make_host("a", routes=(("b", ("b",)), ("c", ("c",)))), make_host("b"), make_host("c"))
        self.do(("submit", "a", ("ann", "c"), (("nobody", "b"),), LINES))
        self.settle(9, 2, now=0)
        self.assertEqual(self.pairs(), [("a", "b"), ("a", "c")])
        self.assertEqual(messages_in(self.world, "c", "ann"), [report_about("nobody@b", "refused by b: 550 unknown")])

    def test_step_4_the_dialogue_runs_until_the_sender_has_ended(self):
        self.do(("submit", "a", None, (BOB, BOB), LINES))
        self.settle(1, 1)
        each = self.world.connections[0]
        self.assertEqual((each.sender, each.to_server, each.to_client, each.is_cut, each.session.over),
                         (None, [], [], False, True))

    def test_step_4_peers_that_are_no_hosts_of_the_world(self):
        self.new_world(make_host("a", routes=(("b", ("b",)), ("far", ("ghost",)), ("z", ("z",)))), make_host("b"),
                       make_host("z"))
        self.do(("submit", "a", None, (("x", "far"), BOB, ("bob", "z")), LINES))
        self.settle(1, 1, rest=False, now=0)
        self.assertEqual(self.pairs(), [("a", "b"), ("a", "z")])
        self.assertEqual(custody(self.world), [("a", ("a", 1, 0), None)])

    def test_step_5_works_again(self):
        self.do(("submit", "a", ANN, (("nobody", "b"),), LINES))
        self.settle(1, 1)
        self.assertEqual(messages_in(self.world, "a", "ann"), [report_about("nobody@b", "refused by b: 550 unknown")])


class Time(Settling):
    """Promise 42: step 6, and when settling stops."""

    def ghost_world(self, limits=LIMITS):
        """Return a world in which mail for far cannot leave the host a."""
        self.new_world(make_host("a", routes=(("far", ("ghost",)),), limits=limits), make_host("b"))

    def test_the_least_expiry(self):
        self.ghost_world()
        self.do(("tick", 3), ("submit", "a", ANN, (("x", "far"),), LINES), ("tick", 4))
        self.settle(1, 1, rest=False, now=63)
        self.settle(9, 1, now=63)
        self.assertEqual(messages_in(self.world, "a", "ann"), [report_about("x@far", "expired")])

    def test_the_rounds_until_a_rest(self):
        self.ghost_world()
        self.do(("submit", "a", ANN, (("x", "far"),), LINES))
        self.settle(9, 2, now=60)

    def test_the_least_due_time(self):
        self.ghost_world()
        self.do(("submit", "a", None, (("x", "far"), ("y", "far")), LINES))
        self.world.hosts["a"].add(("retry", ("a", 1, 0), 1, 7))
        self.world.hosts["a"].add(("retry", ("a", 2, 0), 1, 5))
        for rounds, now in ((1, 5), (1, 7), (1, 60)):
            self.settle(rounds, rounds, rest=False, now=now)
        self.settle(9, 1, now=60)

    def test_a_time_that_is_not_greater_does_not_count(self):
        self.ghost_world()
        self.do(("submit", "a", None, (("x", "far"), ("y", "far")), LINES), ("tick", 5))
        self.world.hosts["a"].add(("retry", ("a", 1, 0), 1, 5))
        self.world.hosts["a"].add(("retry", ("a", 2, 0), 1, 6))
        self.settle(1, 1, rest=False, now=6)

    def test_times_of_each_host_count(self):
        self.new_world(make_host("a", routes=(("", ("ghost",)),), limits=Limits(50, (1,), 9, 9, 9)),
                       make_host("b", routes=(("", ("ghost",)),), limits=Limits(20, (1,), 9, 9, 9)))
        self.do(("submit", "a", None, (("x", "far"),), LINES), ("submit", "b", None, (("x", "far"),), LINES))
        self.settle(1, 1, rest=False, now=20)
        self.settle(1, 1, rest=False, now=20)
        self.settle(1, 1, rest=False, now=50)
        self.settle(9, 1, now=50)

    def test_items_in_doubt_count(self):
        self.ghost_world()
        self.do(("submit", "a", None, (("x", "far"),), LINES))
        for event in (("retry", ("a", 1, 0), 1, 8), ("doubt", ("a", 1, 0), "ghost")):
            self.world.hosts["a"].add(event)
        self.settle(1, 1, rest=False, now=8)
        self.settle(1, 1, rest=False, now=60)
        self.settle(9, 1, rest=False, now=60)
        self.settle(9, 1, rest=False, now=60)
        self.assertEqual(custody(self.world), [("a", ("a", 1, 0), "ghost")])

    def test_no_such_time(self):
        self.world.hosts["a"].add(("submit", None, (BOB,), LINES, 0))
        self.world.hosts["a"].add(("passed", ("a", 1, 0), "ghost"))
        self.settle(9, 1, rest=False, now=0)
        self.assertEqual(self.world.connections, [])

    def test_events_keep_the_time_as_it_is(self):
        """The queue of b is full, so that the item of a has to wait four ticks."""
        full = Limits(60, (4, 9), 6, 8, 1)
        self.new_world(make_host("a", routes=(("b", ("b",)),)),
                       make_host("b", routes=(("far", ("ghost",)),), limits=full))
        self.do(("submit", "b", None, (("x", "far"),), LINES), ("submit", "a", None, (BOB,), LINES))
        for now in (0, 4, 4, 13, 13, 22):
            self.settle(1, 1, rest=False, now=now)
        self.assertEqual(self.world.hosts["a"].state.queue["a", 1, 0].tries, 3)

    def test_events_of_each_step_count(self):
        """An event of step 2 alone keeps the time, too."""
        self.ghost_world()
        self.do(("submit", "a", None, (("x", "far"),), LINES), ("connect", "b", "a"))
        self.world.hosts["a"].add(("take", "b", ("b", 9, 1), None, ("y", "far"), (), (), 0))
        self.world.connections[0].to_server.extend(["HELO b", "FORGET b 9 1"])
        self.settle(1, 1, rest=False, now=0)
        self.assertEqual(self.world.hosts["a"].state.taken, {})
        self.settle(1, 1, rest=False, now=60)

    def test_events_before_settling_do_not_count(self):
        self.ghost_world()
        self.do(("submit", "a", None, (("x", "far"),), LINES), ("crash", "a", 0, 0))
        self.settle(1, 1, rest=False, now=60)

    def test_the_time_stays_when_the_world_comes_to_rest(self):
        self.do(("tick", 5), ("submit", "a", None, (BOB,), LINES))
        self.settle(9, 1, now=5)

    def test_the_given_number_of_rounds(self):
        for rounds in (1, 2, 3, 4):
            self.ghost_world()
            self.do(("submit", "a", None, (("x", "far"),), LINES))
            for tries, due in ((1, 10), (1, 20), (1, 30)):
                self.do(("submit", "a", None, (("x", "far"),), LINES))
                self.world.hosts["a"].add(("retry", ("a", due // 10 + 1, 0), tries, due))
            self.settle(rounds, rounds, rest=False, now=(10, 20, 30, 60)[rounds - 1])


class Always(Settling):
    """Promise 43."""

    def test_two_full_hosts_that_want_to_pass_to_each_other(self):
        full = Limits(30, (4,), 6, 8, 1)
        self.new_world(make_host("a", routes=(("b", ("b",)),), limits=full),
                       make_host("b", routes=(("a", ("a",)),), limits=full))
        self.do(("submit", "a", ANN, (BOB,), LINES), ("submit", "b", BOB, (ANN,), LINES))
        self.ledger.settle(self.world)

    def test_routes_in_a_circle(self):
        self.new_world(*[make_host(name, routes=(("", (following,)),))
                         for name, following in (("a", "b"), ("b", "c"), ("c", "a"))])
        self.do(("submit", "a", ANN, (("x", "far"),), LINES))
        self.ledger.settle(self.world)
        self.assertEqual(messages_in(self.world, "a", "ann"), [report_about("x@far", "too many hops")])

    def test_lists_that_contain_each_other(self):
        one, other = ("all", "a"), ("all", "b")
        self.new_world(make_host("a", lists=(("all", one, (other, ANN)),), routes=(("b", ("b",)),)),
                       make_host("b", lists=(("all", None, (one, BOB)),), routes=(("a", ("a",)),)))
        self.do(("submit", "a", BOB, (one,), LINES))
        self.ledger.settle(self.world)
        self.assertEqual(messages_in(self.world, "a", "ann").count(LINES), 1)
        self.assertEqual(messages_in(self.world, "b", "bob").count(LINES), 1)

    def test_an_empty_sender(self):
        self.do(("submit", "a", None, (("nobody", "b"), ("x", "far")), LINES))
        self.ledger.settle(self.world)
        self.assertEqual({host.state.serial for host in self.world.hosts.values()}, {0, 2})


if __name__ == "__main__":
    unittest.main()
