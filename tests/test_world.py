"""Promises 31 and 39 to 41, and the interface section dawkline/world.py."""

import inspect
import unittest

from dawkline import world as world_module
from dawkline.directory import Directory
from dawkline.host import Host
from dawkline.sender import Limits, Sender
from dawkline.session import Session
from dawkline.state import State
from dawkline.world import Connection, World
from worlds import everything, run_dialogue

ANN, BOB, CAT = ("ann", "a"), ("bob", "b"), ("cat", "c")
LINES = ("To: x", "", "hello")
LIMITS = Limits(100, (5, 7), 9, 4, 3)
ROUTES = (("a", ("a",)), ("b", ("b",)), ("c", ("c",)))
UNKNOWN = ("", "x", "A", "ab", "a.b")


def make_hosts(*domains):
    users = {"a": "ann", "b": "bob", "c": "cat"}
    return [Host(Directory(domain, (users[domain],), ()), ROUTES, LIMITS) for domain in domains]


class Worlds(unittest.TestCase):
    def setUp(self):
        self.world = World(make_hosts("a", "b", "c"))

    def do(self, *moves):
        """Perform moves that are possible."""
        for move in moves:
            self.assertIs(self.world.move(move), True, move)

    def fail_to(self, *moves):
        """Try moves that are not possible: nothing changes."""
        for move in moves:
            before = everything(self.world)
            self.assertIs(self.world.move(move), False, move)
            self.assertEqual(everything(self.world), before, move)

    def state(self, domain):
        return self.world.hosts[domain].state

    def mail(self, recipient=BOB, host="a", many=1):
        for _ in range(many):
            self.do(("submit", host, ANN, (recipient,), LINES))

    def take_down(self, domain):
        """Let the power of a host end; its disk has not crashed then."""
        self.do(("power", domain, 0), ("checkpoint", domain))
        self.assertIs(self.world.hosts[domain].up, False)

    def until(self, number, line):
        """Let lines of a connection arrive until this one is on its way."""
        each = self.world.connections[number]
        while line not in each.to_server + each.to_client:
            self.assertEqual(run_dialogue(self.world, number, 1), 1)

    def lines(self, number):
        """Return the lines on their way in a connection: to the server, and to the client."""
        return (self.world.connections[number].to_server, self.world.connections[number].to_client)


class Interface(Worlds):
    def test_names_arguments_and_file(self):
        self.assertEqual(str(inspect.signature(World)), "(hosts)")
        self.assertEqual(str(inspect.signature(vars(World)["move"])), "(self, move)")
        self.assertEqual(str(inspect.signature(Connection)), "(client, server)")
        for found in (World, Connection, world_module.World):
            self.assertEqual(found.__module__, "dawkline.world")

    def test_a_new_world(self):
        hosts = make_hosts("c", "a", "b")
        world = World(hosts)
        self.assertEqual((world.now, world.connections), (0, []))
        self.assertIs(type(world.hosts), dict)
        self.assertEqual(set(world.hosts), {"a", "b", "c"})
        for host in hosts:
            self.assertIs(world.hosts[host.directory.domain], host)
            self.assertIs(host.up, True)
            self.assertEqual(host.state.to_value(), State(host.directory.domain).to_value())

    def test_a_new_connection(self):
        each = Connection("a", "b")
        self.assertEqual((each.client, each.server, each.to_server, each.is_cut), ("a", "b", [], False))
        self.assertIs(type(each.to_client), list)
        self.assertIs(type(each.sender), Sender)
        self.assertEqual(each.sender.peer, "b")
        self.assertIs(type(each.session), Session)
        self.assertEqual(each.session.greeting(), "220 b")
        self.assertIsNot(each.to_server, Connection("a", "b").to_server)

    def test_a_world_of_hosts_that_have_journals(self):
        self.mail()
        host = self.world.hosts["a"]
        value = host.state.to_value()
        self.do(("crash", "a", 0, 0))
        again = World([host])
        self.assertEqual(again.hosts["a"].state.to_value(), value)

    def test_a_host_whose_power_ends_at_the_first_start(self):
        hosts = make_hosts("a", "b")
        hosts[0].disk.limit(3)
        self.world = World(hosts)
        self.assertEqual([host.up for host in hosts], [False, True])
        self.fail_to(("start", "a"), ("submit", "a", ANN, (ANN,), ()))
        self.do(("crash", "a", 1, 1), ("start", "a"), ("submit", "a", ANN, (ANN,), ()))

    def test_an_unknown_move(self):
        self.fail_to(("fall", "a"), ("", "a"), ("Work", "a"))


class Hosts(Worlds):
    """Promise 39: the moves about one host."""

    def test_submit(self):
        self.do(("tick", 7), ("submit", "a", ANN, (BOB, ANN), LINES))
        expected = State("a")
        expected.apply(("submit", ANN, (BOB, ANN), LINES, 7))
        self.assertEqual(self.state("a").to_value(), expected.to_value())
        self.assertEqual(self.state("b").to_value(), State("b").to_value())

    def test_submit_is_refused(self):
        self.fail_to(("submit", "a", ANN, (BOB,), ("x",) * 5), ("submit", "a", ANN, (BOB, ("nobody", "a")), LINES))
        self.mail(many=3)
        self.fail_to(("submit", "a", ANN, (BOB,), LINES))
        self.do(("submit", "b", ANN, (BOB,), ("x",) * 4))

    def test_submit_where_no_host_is_up(self):
        self.fail_to(*[("submit", name, ANN, (BOB,), LINES) for name in UNKNOWN])
        self.do(("crash", "a", 0, 0))
        self.fail_to(("submit", "a", ANN, (BOB,), LINES))

    def test_work(self):
        self.do(("submit", "a", BOB, (ANN, BOB, ANN), LINES), ("work", "a"))
        self.assertEqual(sorted(self.state("a").queue), [("a", 2, 0), ("a", 3, 0)])
        self.do(("work", "a"))
        self.assertEqual(self.state("a").boxes["ann"].number, 2)
        self.fail_to(("work", "a"), ("work", "b"))

    def test_work_at_the_time_of_the_world(self):
        self.mail()
        self.do(("tick", 99))
        self.fail_to(("work", "a"))
        self.do(("tick", 1), ("work", "a"))
        self.assertEqual(self.state("a").queue["a", 2, 0].born, 100)

    def test_work_where_no_host_is_up(self):
        self.fail_to(*[("work", name) for name in UNKNOWN])
        self.mail(ANN)
        self.do(("crash", "a", 0, 0))
        self.fail_to(("work", "a"))

    def test_work_passes_over_items_on_which_a_sender_works(self):
        self.mail()
        self.do(("connect", "a", "b"))
        self.until(0, "OFFER a 1 1")
        self.do(("tick", 100))
        self.fail_to(("work", "a"))
        self.do(("cut", 0), ("work", "a"))

    def test_power(self):
        self.do(("power", "a", 1000))
        self.mail()
        self.do(("power", "a", 3))
        self.assertIs(self.world.hosts["a"].up, True)
        self.do(("submit", "a", ANN, (BOB,), LINES))
        self.assertIs(self.world.hosts["a"].up, False)
        self.assertIsNone(self.state("a"))
        self.assertEqual(max(self.world.hosts["a"].disk.pending(file) for file in (0, 1)), 3)
        self.fail_to(("power", "a", 5), *[("power", name, 5) for name in UNKNOWN])

    def test_power_can_be_limited_anew(self):
        self.do(("power", "a", 0), ("power", "a", 1000))
        self.mail()
        self.assertIs(self.world.hosts["a"].up, True)

    def test_crash(self):
        self.mail()
        self.do(("power", "a", 5), ("submit", "a", ANN, (BOB,), LINES))
        host = self.world.hosts["a"]
        file = 0 if host.disk.pending(0) else 1
        content = host.disk.content(file)
        self.do(("crash", "a", 2, 2))
        self.assertEqual(host.disk.pending(file), 0)
        self.assertEqual(host.disk.content(file), content[:-3])
        self.assertIs(host.up, False)
        self.do(("crash", "a", 9, 9), ("start", "a"))
        self.assertEqual(self.state("a").count, 1)

    def test_a_crash_keeps_different_numbers_of_steps(self):
        host = self.world.hosts["a"]
        for file in (0, 1):
            host.disk.append(file, [0, 0, 0, 0])
        lengths = [len(host.disk.content(file)) for file in (0, 1)]
        self.do(("crash", "a", 1, 3))
        self.assertEqual([len(host.disk.content(file)) for file in (0, 1)], [lengths[0] - 3, lengths[1] - 1])

    def test_a_crash_while_the_host_is_up(self):
        self.mail()
        value = self.state("a").to_value()
        self.do(("crash", "a", 0, 0))
        self.assertIs(self.world.hosts["a"].up, False)
        self.assertIsNone(self.state("a"))
        self.do(("start", "a"))
        self.assertEqual(self.state("a").to_value(), value)
        self.fail_to(*[("crash", name, 0, 0) for name in UNKNOWN])

    def test_a_crash_ends_the_limit_of_power(self):
        self.do(("power", "a", 2), ("crash", "a", 0, 0), ("start", "a"))
        self.mail()
        self.assertIs(self.world.hosts["a"].up, True)

    def test_start_only_after_a_crash(self):
        self.fail_to(("start", "a"), *[("start", name) for name in UNKNOWN])
        self.take_down("a")
        self.fail_to(("start", "a"))
        self.do(("crash", "a", 0, 0), ("start", "a"))
        self.fail_to(("start", "a"))
        self.take_down("a")
        self.fail_to(("start", "a"))
        self.do(("crash", "a", 9, 9), ("crash", "a", 0, 0), ("start", "a"))
        self.assertIs(self.world.hosts["a"].up, True)

    def test_a_crash_of_another_host_does_not_count(self):
        self.take_down("a")
        self.do(("crash", "b", 0, 0))
        self.fail_to(("start", "a"))
        self.do(("start", "b"))
        self.fail_to(("start", "a"), ("start", "b"))

    def test_a_crash_before_the_host_went_down_does_not_count(self):
        self.do(("crash", "a", 0, 0), ("start", "a"))
        self.take_down("a")
        self.fail_to(("start", "a"))

    def test_power_that_ends_in_the_start(self):
        self.mail()
        value = self.state("a").to_value()
        self.do(("crash", "a", 0, 0))
        self.world.hosts["a"].disk.limit(4)
        self.do(("start", "a"))
        self.assertIs(self.world.hosts["a"].up, False)
        self.fail_to(("start", "a"))
        self.do(("crash", "a", 9, 9), ("start", "a"))
        self.assertEqual(self.state("a").to_value(), value)

    def test_checkpoint(self):
        self.mail()
        value = self.state("a").to_value()
        contents = [self.world.hosts["a"].disk.content(file) for file in (0, 1)]
        self.do(("checkpoint", "a"))
        self.assertNotEqual([self.world.hosts["a"].disk.content(file) for file in (0, 1)], contents)
        self.assertEqual(self.state("a").to_value(), value)
        self.fail_to(*[("checkpoint", name) for name in UNKNOWN])
        self.do(("crash", "a", 0, 0))
        self.fail_to(("checkpoint", "a"))

    def test_tick(self):
        self.do(("tick", 1))
        self.assertEqual(self.world.now, 1)
        self.do(("tick", 41), ("tick", 1000))
        self.assertEqual(self.world.now, 1042)
        self.fail_to(("tick", 0), ("tick", -1), ("tick", -5000))

    def test_route(self):
        routes = (("b", ("c", "b")),)
        self.do(("route", "a", routes))
        self.assertEqual(self.world.hosts["a"].routes, routes)
        self.assertEqual(self.world.hosts["b"].routes, ROUTES)
        self.fail_to(*[("route", name, routes) for name in UNKNOWN])
        self.do(("crash", "a", 0, 0), ("route", "a", ()))
        self.assertEqual(self.world.hosts["a"].routes, ())
        self.do(("start", "a"))
        self.assertEqual(self.world.hosts["a"].routes, ())

    def test_flag_and_expunge(self):
        self.do(("submit", "a", BOB, (ANN, ANN), LINES), ("work", "a"), ("work", "a"))
        self.do(("flag", "a", "ann", 2, ("seen", "draft", "seen")))
        self.assertEqual([entry[2] for entry in self.state("a").boxes["ann"].entries], [(), ("draft", "seen")])
        self.do(("expunge", "a", "ann", 1))
        self.assertEqual([entry[0] for entry in self.state("a").boxes["ann"].entries], [2])
        self.assertEqual(self.state("a").count, 5)
        for user, number in (("ann", 1), ("ann", 0), ("ann", 3), ("ann", -1), ("bob", 1), ("zoe", 2)):
            self.fail_to(("flag", "a", user, number, ("x",)), ("expunge", "a", user, number))
        for name in UNKNOWN + ("b",):
            self.fail_to(("flag", name, "ann", 2, ("x",)), ("expunge", name, "ann", 2))
        value = self.state("a").to_value()
        self.do(("crash", "a", 0, 0))
        self.fail_to(("flag", "a", "ann", 2, ("x",)), ("expunge", "a", "ann", 2))
        self.do(("start", "a"))
        self.assertEqual(self.state("a").to_value(), value)

    def test_moves_in_which_the_power_ends(self):
        for move in (("submit", "a", ANN, (BOB,), LINES), ("work", "a"), ("checkpoint", "a"),
                     ("flag", "a", "ann", 1, ("x",)), ("expunge", "a", "ann", 1)):
            self.setUp()
            self.do(("submit", "a", ANN, (ANN, ANN), LINES), ("work", "a"), ("connect", "a", "b"),
                    ("connect", "b", "a"), ("power", "a", 1), move)
            self.assertIs(self.world.hosts["a"].up, False)
            self.assertIsNone(self.state("a"))
            self.assertIs(self.world.connections[0].is_cut, True)
            self.assertIs(self.world.connections[1].session.over, True)
            self.fail_to(move, ("start", "a"))

    def test_moves_stay_as_they_were(self):
        move = ("submit", "a", ANN, (BOB, ANN), LINES)
        self.do(move)
        self.assertEqual(move, ("submit", "a", ANN, (BOB, ANN), LINES))


class Connecting(Worlds):
    """Promise 39: connect and cut."""

    def test_connect(self):
        self.do(("connect", "a", "b"))
        self.assertEqual(len(self.world.connections), 1)
        each = self.world.connections[0]
        self.assertIs(type(each), Connection)
        self.assertEqual((each.client, each.server, each.to_server, each.to_client), ("a", "b", [], ["220 b"]))
        self.assertEqual((each.sender.peer, each.sender.over, each.session.peer, each.session.over),
                         ("b", False, None, False))
        self.assertIs(each.is_cut, False)

    def test_numbers_in_the_order_of_opening(self):
        self.do(("connect", "a", "b"), ("connect", "c", "a"), ("connect", "b", "a"))
        self.assertEqual([(each.client, each.server) for each in self.world.connections],
                         [("a", "b"), ("c", "a"), ("b", "a")])
        self.assertEqual([each.is_cut for each in self.world.connections], [False] * 3)

    def test_connect_is_not_possible(self):
        self.fail_to(("connect", "a", "a"))
        for name in UNKNOWN:
            self.fail_to(("connect", "a", name), ("connect", name, "a"), ("connect", name, name))
        self.do(("crash", "b", 0, 0))
        self.fail_to(("connect", "a", "b"), ("connect", "b", "a"), ("connect", "b", "b"))
        self.do(("start", "b"), ("connect", "a", "b"), ("connect", "b", "a"))

    def test_connect_to_the_same_server_cuts_the_connection_before_it(self):
        self.do(("connect", "a", "b"), ("connect", "b", "a"), ("connect", "a", "c"), ("connect", "c", "b"))
        self.do(("to_client", 0), ("connect", "a", "b"))
        self.assertEqual([each.is_cut for each in self.world.connections], [True, False, False, False, False])
        self.assertEqual(self.lines(0), (["HELO a"], []))
        self.assertIsNone(self.world.connections[0].sender)
        self.assertIs(self.world.connections[0].session.over, False)
        self.assertEqual(self.lines(4), ([], ["220 b"]))
        self.do(("connect", "a", "b"))
        self.assertEqual([each.is_cut for each in self.world.connections], [True, False, False, False, True, False])
        self.assertEqual(self.lines(4), ([], []))

    def test_a_connect_that_is_not_possible_cuts_none(self):
        self.do(("connect", "a", "b"), ("crash", "b", 0, 0))
        self.fail_to(("connect", "a", "b"))
        self.assertIs(self.world.connections[0].is_cut, False)

    def test_cut(self):
        self.do(("connect", "a", "b"), ("connect", "a", "c"), ("to_client", 0), ("cut", 0))
        each = self.world.connections[0]
        self.assertIs(each.is_cut, True)
        self.assertIsNone(each.sender)
        self.assertIs(each.session.over, False)
        self.assertEqual(self.lines(0), (["HELO a"], []))
        self.fail_to(("cut", 0), ("to_client", 0))
        self.assertIs(self.world.connections[1].is_cut, False)
        self.do(("cut", 1))
        self.assertEqual(self.lines(1), ([], []))

    def test_numbers_without_a_connection(self):
        for number in (0, 1, -1):
            self.fail_to(("cut", number), ("to_server", number), ("to_client", number))
        self.do(("connect", "a", "b"), ("connect", "b", "a"), ("to_client", 0))
        for number in (2, 3, 100, -1, -2, -100):
            self.fail_to(("cut", number), ("to_server", number), ("to_client", number))

    def test_a_connection_that_ended_can_be_cut(self):
        self.do(("connect", "a", "b"))
        run_dialogue(self.world, 0)
        self.assertIsNone(self.world.connections[0].sender)
        self.assertIs(self.world.connections[0].is_cut, False)
        self.do(("cut", 0))
        self.fail_to(("cut", 0))


class Lines(Worlds):
    """Promises 39 to 41: lines on their way."""

    def test_without_a_line(self):
        self.do(("connect", "a", "b"))
        self.fail_to(("to_server", 0))
        self.do(("to_client", 0))
        self.fail_to(("to_client", 0))
        self.do(("to_server", 0))
        self.fail_to(("to_server", 0))

    def test_a_whole_dialogue(self):
        self.mail()
        self.do(("connect", "a", "b"))
        heard = []
        while self.world.connections[0].sender is not None:
            to_server, to_client = self.lines(0)
            self.assertFalse(to_server and to_client)
            heard.append((to_client or to_server)[0])
            self.assertEqual(run_dialogue(self.world, 0, 1), 1)
        self.assertEqual(heard, [
            "220 b", "HELO a", "250 b", "OFFER a 1 1", "250 go", "FROM <ann@a>", "250 ok", "TO <bob@b>", "250 ok",
            "VIA", "250 ok", "DATA", "354 go", "Received: by a", "To: x", "", "hello", ".", "250 taken",
            "FORGET a 1 1", "250 ok", "QUIT", "221 bye"])
        self.assertEqual(self.lines(0), ([], []))
        self.assertIs(self.world.connections[0].session.over, True)
        self.assertIs(self.world.connections[0].is_cut, False)
        self.assertEqual((self.state("a").queue, self.state("a").owed, self.state("b").taken), ({}, {}, {}))
        item = self.state("b").queue["a", 1, 1]
        self.assertEqual(item.lines, ("Received: by b", "Received: by a") + LINES)
        self.assertEqual((self.state("a").count, self.state("b").count), (4, 2))

    def test_the_first_line_arrives_first(self):
        self.mail()
        self.do(("connect", "a", "b"))
        self.until(0, "hello")
        self.assertEqual(self.lines(0)[0], ["Received: by a", "To: x", "", "hello", "."])
        self.do(("to_server", 0))
        self.assertEqual(self.lines(0), (["To: x", "", "hello", "."], []))

    def test_the_doubt_is_added_before_the_dot_is_on_its_way(self):
        self.mail()
        self.do(("connect", "a", "b"))
        self.until(0, "354 go")
        self.do(("power", "a", 0), ("to_client", 0))
        self.assertIs(self.world.hosts["a"].up, False)
        self.assertEqual(self.lines(0), (["Received: by a", "To: x", "", "hello"], []))
        self.assertIs(self.world.connections[0].is_cut, True)

    def test_the_take_is_added_before_the_reply_is_on_its_way(self):
        self.mail()
        self.do(("connect", "a", "b"))
        self.until(0, ".")
        self.do(*[("to_server", 0)] * 4, ("power", "b", 2), ("to_server", 0))
        self.assertIs(self.world.hosts["b"].up, False)
        self.assertEqual(self.lines(0), ([], []))
        self.assertIs(self.world.connections[0].is_cut, False)
        self.assertIsNotNone(self.world.connections[0].sender)
        self.assertIs(self.world.connections[0].session.over, True)

    def test_the_time_of_the_world_counts(self):
        self.mail()
        self.do(("connect", "a", "b"), ("tick", 3))
        run_dialogue(self.world, 0)
        self.assertEqual(self.state("b").queue["a", 1, 1].born, 3)

    def test_the_limits_and_the_directory_of_the_server_count(self):
        self.world.hosts["b"].limits = Limits(100, (5,), 9, 3, 3)
        self.mail()
        self.mail(("nobody", "b"))
        self.do(("connect", "a", "b"))
        run_dialogue(self.world, 0)
        reasons = [item.lines[-1] for _, item in sorted(self.state("a").queue.items())]
        self.assertEqual(reasons, ["Reason: refused by b: 552 long", "Reason: refused by b: 550 unknown"])

    def test_two_connections_of_one_host_do_not_work_on_one_item(self):
        self.do(("route", "a", (("b", ("c", "b")),)))
        self.mail()
        self.do(("connect", "a", "b"), ("connect", "a", "c"))
        self.until(0, "OFFER a 1 1")
        self.until(1, "QUIT")
        self.do(("cut", 0), ("connect", "a", "c"))
        self.until(2, "OFFER a 1 1")

    def test_the_end_of_a_sender_loses_the_lines_to_it(self):
        self.do(("connect", "a", "b"))
        each = self.world.connections[0]
        each.to_client[:] = ["500 no", "220 b"]
        self.do(("to_client", 0))
        self.assertIsNone(each.sender)
        self.assertEqual(self.lines(0), ([], []))
        self.assertIs(each.is_cut, False)
        self.fail_to(("to_client", 0), ("to_server", 0))

    def test_a_reply_to_a_sender_that_has_ended_is_lost(self):
        self.do(("connect", "a", "b"))
        each = self.world.connections[0]
        each.to_client[:] = ["500 no"]
        each.to_server.append("HELO a")
        self.do(("to_client", 0), ("to_server", 0))
        self.assertEqual(self.lines(0), ([], []))
        self.assertEqual(each.session.peer, "a")

    def test_a_line_for_a_client_that_has_ended_has_no_effect(self):
        self.do(("connect", "a", "b"))
        run_dialogue(self.world, 0)
        self.world.connections[0].to_client.append("250 ok")
        self.do(("to_client", 0))
        self.assertEqual(self.lines(0), ([], []))

    def test_lines_behind_quit_have_no_effect(self):
        self.mail()
        self.do(("connect", "a", "b"))
        self.until(0, "QUIT")
        self.world.connections[0].to_server.extend(["HELO a", "FORGET a 1 1"])
        self.do(("to_server", 0))
        self.assertIs(self.world.connections[0].session.over, True)
        before = self.state("b").to_value()
        self.do(("to_server", 0), ("to_server", 0))
        self.fail_to(("to_server", 0))
        self.assertEqual(self.lines(0), ([], ["221 bye"]))
        self.assertEqual(self.state("b").to_value(), before)

    def test_behind_a_cut_lines_arrive_and_their_replies_are_lost(self):
        self.mail()
        self.do(("connect", "a", "b"))
        self.until(0, ".")
        self.do(("cut", 0))
        for left in (4, 3, 2, 1, 0):
            self.do(("to_server", 0))
            self.assertEqual(len(self.lines(0)[0]), left)
            self.assertEqual(self.lines(0)[1], [])
        self.assertEqual(self.state("b").taken, {("a", 1, 1): "a"})
        self.assertEqual(list(self.state("b").queue), [("a", 1, 1)])
        self.assertEqual(self.state("a").queue["a", 1, 0].doubt, "b")
        self.assertIs(self.world.connections[0].session.over, False)
        self.fail_to(("to_server", 0), ("to_client", 0))

    def test_a_reply_that_is_on_its_way_is_lost_by_a_cut(self):
        self.mail()
        self.do(("connect", "a", "b"))
        self.until(0, "250 taken")
        self.do(("cut", 0))
        self.assertEqual(self.lines(0), ([], []))
        self.assertEqual(self.state("a").queue["a", 1, 0].doubt, "b")

    def test_behind_a_fall_of_the_client(self):
        for fall in (("crash", "a", 0, 0), ("checkpoint", "a")):
            self.setUp()
            self.mail()
            self.do(("connect", "a", "b"), ("connect", "a", "c"))
            self.until(0, ".")
            self.do(("power", "a", 0), fall)
            for number in (0, 1):
                self.assertIs(self.world.connections[number].is_cut, True)
                self.assertIsNone(self.world.connections[number].sender)
                self.assertIs(self.world.connections[number].session.over, False)
                self.assertEqual(self.lines(number)[1], [])
            self.do(*[("to_server", 0)] * 5)
            self.assertEqual(self.state("b").taken, {("a", 1, 1): "a"})
            self.assertEqual(self.lines(0), ([], []))

    def test_behind_a_fall_of_the_server(self):
        for fall in (("crash", "b", 0, 0), ("checkpoint", "b")):
            self.setUp()
            self.mail()
            self.do(("connect", "a", "b"), ("connect", "c", "b"), ("connect", "b", "c"))
            self.until(0, ".")
            self.do(("power", "b", 0), fall)
            for number in (0, 1):
                self.assertIs(self.world.connections[number].is_cut, False)
                self.assertIsNotNone(self.world.connections[number].sender)
                self.assertIs(self.world.connections[number].session.over, True)
            self.assertIs(self.world.connections[2].is_cut, True)
            self.assertIs(self.world.connections[2].session.over, False)
            self.do(("to_client", 1))
            self.assertEqual(self.lines(1), (["HELO c"], []))
            self.do(*[("to_server", 0)] * 5, ("to_server", 1))
            self.assertEqual((self.lines(0), self.lines(1)), (([], []), ([], [])))
            self.do(("crash", "b", 0, 0), ("start", "b"))
            self.assertEqual(self.state("b").taken, {})
            self.assertEqual(self.state("a").queue["a", 1, 0].doubt, "b")

    def test_lines_for_a_session_from_before_a_fall_have_no_effect(self):
        self.mail()
        self.do(("connect", "a", "b"))
        self.until(0, ".")
        self.do(("crash", "b", 0, 0), ("start", "b"), *[("to_server", 0)] * 5)
        self.assertEqual(self.state("b").taken, {})
        self.assertEqual(self.lines(0), ([], []))

    def test_connections_of_other_hosts_go_on(self):
        self.mail()
        self.do(("connect", "a", "b"), ("connect", "c", "b"), ("crash", "c", 0, 0))
        run_dialogue(self.world, 0)
        self.assertEqual(list(self.state("b").queue), [("a", 1, 1)])
        self.assertEqual([each.is_cut for each in self.world.connections], [False, True])


class Sessions(Worlds):
    """Promise 31: every HELO ends every other session of the server with the same client."""

    def sessions(self):
        return [each.session.over for each in self.world.connections]

    def test_a_second_helo_of_the_same_client(self):
        self.mail()
        self.do(("connect", "a", "b"))
        self.until(0, ".")
        self.do(("connect", "a", "b"))
        self.assertEqual(self.sessions(), [False, False])
        self.do(("to_client", 1))
        self.assertEqual(self.sessions(), [False, False])
        self.do(("to_server", 1))
        self.assertEqual(self.sessions(), [True, False])
        self.do(*[("to_server", 0)] * 5)
        self.assertEqual(self.state("b").taken, {})
        run_dialogue(self.world, 1)
        self.assertEqual((self.state("a").queue["a", 1, 0].doubt, self.state("a").queue["a", 1, 0].tries), (None, 1))

    def test_lines_that_arrive_before_the_second_helo_still_count(self):
        self.mail()
        self.do(("connect", "a", "b"))
        self.until(0, ".")
        self.do(("connect", "a", "b"), ("to_client", 1), *[("to_server", 0)] * 5)
        self.assertEqual(self.state("b").taken, {("a", 1, 1): "a"})
        run_dialogue(self.world, 1)
        self.assertEqual((self.state("a").queue, self.state("a").owed, self.state("b").taken), ({}, {}, {}))

    def test_an_older_helo_that_arrives_late_ends_the_newer_session(self):
        self.do(("connect", "a", "b"), ("to_client", 0), ("connect", "a", "b"), ("to_client", 1), ("to_server", 1),
                ("to_client", 1), ("to_server", 0))
        self.assertEqual(self.sessions(), [False, True])
        self.assertEqual(self.world.connections[0].session.peer, "a")
        self.do(("to_server", 1))
        self.assertEqual(self.lines(1), ([], []))

    def test_other_clients_and_other_servers_go_on(self):
        self.do(("connect", "a", "b"), ("connect", "c", "b"), ("connect", "a", "c"), ("connect", "b", "a"))
        for number in range(4):
            self.until(number, "QUIT")
        self.do(("connect", "a", "b"), ("to_client", 4), ("to_server", 4))
        self.assertEqual(self.sessions(), [True, False, False, False, False])

    def test_sessions_without_helo_go_on(self):
        self.do(("connect", "a", "b"), ("connect", "a", "b"), ("to_client", 1), ("to_server", 1))
        self.assertEqual(self.sessions(), [False, False])

    def test_a_second_helo_in_the_same_session(self):
        self.do(("connect", "a", "b"), ("connect", "c", "b"))
        for number in (0, 1):
            self.do(("to_client", number), ("to_server", number))
        self.world.connections[0].to_server.extend(["HELO a", "HELO c"])
        self.do(("to_server", 0))
        self.assertEqual(self.sessions(), [False, False])
        self.do(("to_server", 0))
        self.assertEqual(self.sessions(), [False, True])
        self.assertEqual(self.world.connections[0].session.peer, "c")

    def test_other_commands_and_invalid_ones_end_no_session(self):
        self.do(("connect", "a", "b"), ("connect", "c", "b"))
        for number in (0, 1):
            self.do(("to_client", number), ("to_server", number))
        for line in ("HELO C", "HELO c ", "HELO", "helo c", "ASK c 1 1", "OFFER c 1 1"):
            self.world.connections[0].to_server.append(line)
            self.do(("to_server", 0))
            self.assertEqual(self.sessions(), [False, False])

    def test_invalid_helos_before_the_first_one(self):
        self.do(("connect", "a", "b"), ("connect", "c", "b"), ("connect", "a", "b"))
        for line in ("HELO C", "HELO ", "HELO a b"):
            self.world.connections[0].to_server.append(line)
            self.do(("to_server", 0))
            self.assertEqual(self.sessions(), [False, False, False])

    def test_a_helo_for_a_session_that_has_ended(self):
        self.do(("connect", "a", "b"))
        run_dialogue(self.world, 0)
        self.do(("connect", "a", "b"))
        self.until(1, "QUIT")
        self.world.connections[0].to_server.append("HELO a")
        self.do(("to_server", 0))
        self.assertEqual(self.sessions(), [True, False])
        self.do(("connect", "a", "b"), ("to_client", 2), ("to_server", 2))
        self.assertEqual(self.sessions(), [True, True, False])
        self.world.connections[1].to_server.append("HELO a")
        self.do(("to_server", 1), ("to_server", 1))
        self.assertEqual(self.sessions(), [True, True, False])

    def test_helo_as_a_line_of_a_message(self):
        self.do(("submit", "a", ANN, (BOB,), ("HELO c",)), ("connect", "c", "b"), ("connect", "a", "b"))
        self.do(("to_client", 0), ("to_server", 0))
        self.until(1, "QUIT")
        self.assertEqual(self.sessions(), [False, False])
        self.assertEqual(list(self.state("b").queue), [("a", 1, 1)])

    def test_each_one_of_several_older_sessions_ends(self):
        for number in range(4):
            self.do(("connect", "a", "b"), ("to_client", number), ("to_server", number))
            self.assertEqual(self.sessions(), [True] * number + [False])


if __name__ == "__main__":
    unittest.main()
