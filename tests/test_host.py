"""Promises 35 to 38, promises 15 and 27 as far as hosts go, and the interface section dawkline/host.py."""

import copy
import inspect
import unittest

from dawkline import host as host_module
from dawkline.directory import Directory
from dawkline.disk import Disk
from dawkline.errors import PowerCut, Refused
from dawkline.host import Host
from dawkline.journal import Journal
from dawkline.sender import Limits
from dawkline.state import State, state_of
from worlds import state_on_disk

ANN, BOB = ("ann", "a"), ("bob", "b")
ALL, OPEN, LOOP = ("all", "a"), ("open", "a"), ("loop", "a")
LINES = ("To: x", "", "hello")
TRACE = "Received: by a"
DIRECTORY = Directory("a", ("ann", "zoe"), (("all", ANN, (ANN, BOB)), ("open", None, ()), ("loop", ANN, (LOOP,))))
ROUTES = (("b", ("b", "hub")), ("c", ("c", "b", "d")), ("gone", ()), ("own", ("a", "b")), ("old", ("zz",)))
LIMITS = Limits(100, (5, 7), 3, 4, 6)


def new_host(limits=LIMITS, routes=ROUTES):
    return Host(DIRECTORY, routes, limits)


def started(*events):
    """Return a host that is up, with these events."""
    host = new_host()
    host.start()
    for event in events:
        host.add(event)
    return host


def submitted(*recipients, sender=ANN, lines=LINES, time=10):
    return ("submit", sender, recipients, lines, time)


def taken(tag, recipient, lines=(), via=(), sender=BOB, time=10):
    return ("take", "b", tag, sender, recipient, via, lines, time)


class Interface(unittest.TestCase):
    def test_names_arguments_and_file(self):
        self.assertEqual(str(inspect.signature(Host)), "(directory, routes, limits)")
        for method, arguments in (("start", "(self)"), ("add", "(self, event)"), ("fall", "(self)"),
                                  ("submit", "(self, sender, recipients, lines, now)"),
                                  ("next_work", "(self, now, busy)"), ("peers", "(self, now, busy)"),
                                  ("checkpoint", "(self)")):
            self.assertEqual(str(inspect.signature(vars(Host)[method])), arguments)
        for found in (Host, host_module.Host):
            self.assertEqual(found.__module__, "dawkline.host")

    def test_a_new_host_is_down(self):
        host = new_host()
        self.assertEqual((host.directory, host.routes, host.limits), (DIRECTORY, ROUTES, LIMITS))
        self.assertIs(host.up, False)
        self.assertIsNone(host.state)
        self.assertIs(type(host.disk), Disk)
        self.assertEqual([host.disk.content(file) + [host.disk.pending(file)] for file in (0, 1)], [[0], [0]])
        self.assertIsNot(host.disk, new_host().disk)

    def test_what_methods_return(self):
        host = new_host()
        self.assertIsNone(host.start())
        self.assertEqual(host.add(submitted(BOB, ANN)), [("a", 1, 0), ("a", 2, 0)])
        self.assertEqual(host.add(("doubt", ("a", 1, 0), "b")), [])
        self.assertEqual(host.submit(None, (ANN,), (), 3), [("a", 3, 0)])
        self.assertIsNone(host.checkpoint())
        self.assertIs(type(host.peers(3, ())), tuple)
        self.assertIsNone(host.fall())


class Start(unittest.TestCase):
    """Promise 35."""

    def assert_state(self, host, state):
        self.assertIs(host.up, True)
        self.assertEqual(host.state.to_value(), state.to_value())

    def assert_down(self, host):
        self.assertIs(host.up, False)
        self.assertIsNone(host.state)
        self.assertIs(host.directory, DIRECTORY)
        self.assertIs(host.routes, ROUTES)
        self.assertIs(host.limits, LIMITS)

    def test_the_first_start(self):
        host = started()
        self.assertIs(type(host.state), State)
        self.assert_state(host, State("a"))
        journal = Journal(host.disk)
        self.assertEqual((journal.generation, journal.events), (1, []))
        self.assertEqual(state_of(journal.value).to_value(), State("a").to_value())

    def test_each_start_makes_a_checkpoint(self):
        host = started(submitted(BOB))
        value = host.state.to_value()
        for generation in range(2, 6):
            host.fall()
            self.assert_down(host)
            host.disk.crash(0, 0)
            host.start()
            journal = Journal(host.disk)
            self.assertEqual((journal.generation, journal.value, journal.events), (generation, value, []))

    def test_a_start_after_events(self):
        events = (submitted(BOB, ANN), ("doubt", ("a", 1, 0), "b"), ("deliver", ("a", 2, 0), "ann"),
                  taken(("b", 5, 1), BOB), ("passed", ("a", 1, 0), "b"))
        for many in range(len(events) + 1):
            host = started(*events[:many])
            expected = State("a")
            for event in events[:many]:
                expected.apply(event)
            self.assert_state(host, expected)
            host.fall()
            self.assert_down(host)
            host.disk.crash(0, 0)
            host.start()
            self.assert_state(host, expected)
            self.assertEqual(host.submit(None, (ANN,), (), 0), [("a", expected.serial + 1, 0)])

    def test_a_start_after_a_checkpoint_and_further_events(self):
        host = started(submitted(BOB))
        host.checkpoint()
        host.add(submitted(ANN))
        host.checkpoint()
        host.checkpoint()
        host.add(("deliver", ("a", 2, 0), "ann"))
        value = host.state.to_value()
        host.fall()
        host.disk.crash(0, 0)
        host.start()
        self.assertEqual(host.state.to_value(), value)
        self.assertEqual(host.state.count, 3)

    def test_add_stores_the_event_and_applies_it(self):
        host = started()
        host.add(submitted(BOB))
        self.assertEqual(Journal(host.disk).events, [submitted(BOB)])
        self.assertEqual([host.disk.pending(file) for file in (0, 1)], [0, 0])
        self.assertEqual(host.state.count, 1)

    def cut(self, prepare, perform):
        """Cut the power at every step of a call, crash with every number of steps, and start again.

        Yields the host behind the start for each of these ways.
        """
        steps = 0
        while True:
            keep = 0
            while True:
                host = prepare()
                host.disk.limit(steps)
                try:
                    perform(host)
                except PowerCut:
                    pass
                else:
                    return
                self.assert_down(host)
                with self.assertRaises(PowerCut):
                    host.disk.sync(0)
                pending = max(host.disk.pending(file) for file in (0, 1))
                host.disk.crash(keep, keep)
                host.start()
                yield host
                keep += 1
                if keep > pending:
                    break
            steps += 1

    def test_power_cuts_at_every_step_of_an_event(self):
        event = submitted(BOB)
        before, after = started(submitted(ANN)).state.to_value(), started(submitted(ANN), event).state.to_value()
        found = {True: 0, False: 0}
        for host in self.cut(lambda: started(submitted(ANN)), lambda host: host.add(event)):
            self.assertIn(host.state.to_value(), (before, after))
            found[host.state.to_value() == after] += 1
            with_one_more = host.state.serial + 1
            self.assertEqual(host.submit(None, (ANN,), (), 0), [("a", with_one_more, 0)])
        self.assertGreater(found[True], 0)
        self.assertGreater(found[False], found[True])

    def test_power_cuts_at_every_step_of_submit(self):
        values = (started().state.to_value(), started(submitted(BOB)).state.to_value())
        for host in self.cut(started, lambda host: host.submit(ANN, (BOB,), LINES, 10)):
            self.assertIn(host.state.to_value(), values)

    def test_power_cuts_at_every_step_of_a_checkpoint(self):
        for many in (1, 2):
            def prepare():
                host = started(submitted(BOB), ("doubt", ("a", 1, 0), "b"))
                if many == 2:
                    host.checkpoint()
                return host
            value = prepare().state.to_value()
            ways = 0
            for host in self.cut(prepare, lambda host: host.checkpoint()):
                self.assertEqual(host.state.to_value(), value)
                ways += 1
            self.assertGreater(ways, 100)

    def test_power_cuts_at_every_step_of_a_start(self):
        def prepare():
            host = started(submitted(BOB), ("doubt", ("a", 1, 0), "b"))
            host.fall()
            host.disk.crash(0, 0)
            return host
        host = prepare()
        host.start()
        value = host.state.to_value()
        for host in self.cut(prepare, lambda host: host.start()):
            self.assertEqual(host.state.to_value(), value)

    def test_power_cuts_at_every_step_of_the_first_start(self):
        for host in self.cut(new_host, lambda host: host.start()):
            self.assertEqual(host.state.to_value(), State("a").to_value())

    def test_a_power_cut_is_raised_and_makes_the_host_go_down(self):
        for call in (lambda host: host.add(submitted(BOB)), lambda host: host.checkpoint(),
                     lambda host: host.submit(ANN, (BOB,), (), 0), lambda host: host.start()):
            for steps in (0, 1, 5):
                host = started()
                host.disk.limit(steps)
                with self.assertRaises(PowerCut):
                    call(host)
                self.assert_down(host)

    def test_a_fall(self):
        host = started(submitted(BOB))
        host.fall()
        self.assert_down(host)
        host.fall()
        self.assert_down(host)

    def test_just_enough_power(self):
        host = started()
        host.add(submitted(BOB))
        steps = 0
        while True:
            host = started()
            host.disk.limit(steps)
            try:
                host.add(submitted(BOB))
            except PowerCut:
                steps += 1
                continue
            break
        self.assertTrue(host.up)
        self.assertEqual(host.state.count, 1)

    def test_the_state_goes_on_from_its_value(self):
        """Promise 27: a host that starts from a value does what one would do that never went down."""
        events = (submitted(BOB, ALL), ("expand", ("a", 2, 0), ANN, (ANN, BOB), 11), ("doubt", ("a", 1, 0), "b"))
        following = (("deliver", ("a", 3, 0), "ann"), ("flag", "ann", 1, ("x",)), ("retry", ("a", 1, 0), 1, 15),
                     ("bounce", ("a", 4, 0), "expired", 20))
        one, other = started(*events), started(*events)
        for event in following:
            other.fall()
            other.disk.crash(0, 0)
            other.start()
            self.assertEqual(one.add(event), other.add(event))
            self.assertEqual(one.state.to_value(), other.state.to_value())
            self.assertEqual(state_on_disk(other).to_value(), one.state.to_value())


class Submit(unittest.TestCase):
    """Promise 36."""

    def assert_refused(self, host, sender, recipients, lines):
        before = (host.state.to_value(), [host.disk.content(file) for file in (0, 1)])
        host.disk.limit(0)
        with self.assertRaises(Refused):
            host.submit(sender, recipients, lines, 10)
        host.disk.limit(None)
        self.assertIs(host.up, True)
        self.assertEqual((host.state.to_value(), [host.disk.content(file) for file in (0, 1)]), before)

    def test_the_tags(self):
        host = started()
        self.assertEqual(host.submit(ANN, (BOB,), LINES, 10), [("a", 1, 0)])
        self.assertEqual(host.submit(None, (ANN, BOB, ANN), LINES, 11), [("a", 2, 0), ("a", 3, 0), ("a", 4, 0)])
        expected = started(submitted(BOB), submitted(ANN, BOB, ANN, sender=None, time=11))
        self.assertEqual(host.state.to_value(), expected.state.to_value())
        self.assertEqual(Journal(host.disk).events, [submitted(BOB), submitted(ANN, BOB, ANN, sender=None, time=11)])

    def test_lines(self):
        for many in range(5):
            self.assertEqual(started().submit(ANN, (BOB,), ("x",) * many, 10), [("a", 1, 0)])
        for many in (5, 6, 50):
            self.assert_refused(started(), ANN, (BOB,), ("x",) * many)
        host = new_host(Limits(100, (5,), 3, 0, 6))
        host.start()
        self.assert_refused(host, ANN, (BOB,), ("",))
        self.assertEqual(host.submit(ANN, (BOB,), (), 10), [("a", 1, 0)])

    def test_a_queue_that_is_nearly_full_and_one_that_is_full(self):
        host = started(submitted(*[BOB] * 5))
        self.assertEqual(host.submit(ANN, (BOB,), LINES, 10), [("a", 6, 0)])
        self.assert_refused(host, ANN, (BOB,), LINES)
        host.add(("doubt", ("a", 1, 0), "b"))
        self.assert_refused(host, ANN, (BOB,), LINES)
        host.add(("passed", ("a", 1, 0), "b"))
        self.assertEqual(host.submit(ANN, (BOB, BOB, BOB), LINES, 10), [("a", 7, 0), ("a", 8, 0), ("a", 9, 0)])
        self.assertEqual(len(host.state.queue), 8)
        self.assert_refused(host, ANN, (BOB,), LINES)

    def test_unknown_recipients(self):
        for recipients in ((("nobody", "a"),), (BOB, ("nobody", "a")), (("nobody", "a"), ANN), (("", "a"),)):
            self.assert_refused(started(), ANN, recipients, LINES)

    def test_recipients_that_are_not_unknown_here(self):
        for recipient in (ANN, ALL, OPEN, ("nobody", "b"), ("nobody", "far.away"), ("nobody", "x.a")):
            self.assertEqual(started().submit(ANN, (recipient,), LINES, 10), [("a", 1, 0)])

    def test_senders_are_not_checked(self):
        for sender in (None, ("nobody", "a"), BOB):
            self.assertEqual(started().submit(sender, (ANN,), LINES, 10), [("a", 1, 0)])

    def test_arguments_stay_as_they_were(self):
        recipients, lines = (BOB, ANN), ("a", "b")
        started().submit(ANN, recipients, lines, 10)
        self.assertEqual((recipients, lines), ((BOB, ANN), ("a", "b")))


class Work(unittest.TestCase):
    """Promise 37."""

    def assert_work(self, host, expected, now=10, busy=()):
        before = host.state.to_value()
        content = [host.disk.content(file) for file in (0, 1)]
        host.disk.limit(0)
        self.assertEqual(host.next_work(now, busy), expected)
        host.disk.limit(None)
        self.assertEqual(host.state.to_value(), before)
        self.assertEqual([host.disk.content(file) for file in (0, 1)], content)

    def test_nothing_to_do(self):
        self.assert_work(started(), None)
        self.assert_work(started(submitted(BOB)), None)

    def test_deliver(self):
        self.assert_work(started(submitted(ANN)), ("deliver", ("a", 1, 0), "ann"))
        self.assert_work(started(submitted(("zoe", "a"))), ("deliver", ("a", 1, 0), "zoe"))

    def test_expand(self):
        self.assert_work(started(submitted(ALL)), ("expand", ("a", 1, 0), ANN, (ANN, BOB), 10))
        self.assert_work(started(submitted(OPEN)), ("expand", ("a", 1, 0), None, (), 33), 33)
        via = (BOB, ("all", "b"), ANN)
        self.assert_work(started(taken(("b", 1, 1), ALL, via=via)), ("expand", ("b", 1, 1), ANN, (ANN, BOB), 10))

    def test_loop(self):
        for via in ((ALL,), (BOB, ALL), (ALL, BOB)):
            self.assert_work(started(taken(("b", 1, 1), ALL, via=via)), ("bounce", ("b", 1, 1), "loop", 12), 12)

    def test_a_user_in_the_via_is_no_loop(self):
        self.assert_work(started(taken(("b", 1, 1), ANN, via=(ANN,))), ("deliver", ("b", 1, 1), "ann"))

    def test_a_list_that_contains_itself(self):
        host = started(submitted(LOOP))
        self.assert_work(host, ("expand", ("a", 1, 0), ANN, (LOOP,), 10))
        host.add(host.next_work(10, ()))
        self.assert_work(host, ("bounce", ("a", 2, 0), "loop", 11), 11)
        host.add(host.next_work(11, ()))
        self.assertEqual(host.state.queue["a", 3, 0].recipient, ANN)
        self.assert_work(host, ("deliver", ("a", 3, 0), "ann"))

    def test_unknown_user(self):
        host = started(taken(("b", 1, 1), ("nobody", "a")))
        self.assert_work(host, ("bounce", ("b", 1, 1), "unknown user", 10))

    def test_hops(self):
        for many, expected in ((0, None), (1, None), (2, ("bounce", ("b", 1, 1), "too many hops", 10)),
                               (3, ("bounce", ("b", 1, 1), "too many hops", 10))):
            lines = ("Received: by x",) * many + ("", "Received: by x")
            self.assert_work(started(taken(("b", 1, 1), BOB, lines)), expected)

    def test_no_route(self):
        for domain in ("gone", "x.gone", "unheard", "a.a"):
            self.assert_work(started(submitted(("x", domain))), ("bounce", ("a", 1, 0), "no route", 10))
        self.assert_work(started(submitted(("x", "own"))), None)

    def test_age(self):
        for now, expected in ((10, None), (109, None), (110, ("bounce", ("a", 1, 0), "expired", 110)),
                              (111, ("bounce", ("a", 1, 0), "expired", 111))):
            self.assert_work(started(submitted(BOB)), expected, now)

    def test_due_and_tries_do_not_count(self):
        host = started(submitted(BOB, ANN), ("retry", ("a", 1, 0), 9, 500), ("retry", ("a", 2, 0), 9, 500))
        self.assert_work(host, ("deliver", ("a", 2, 0), "ann"), 109)
        self.assert_work(host, ("bounce", ("a", 1, 0), "expired", 110), 110)

    def test_of_several_events_the_first_one_counts(self):
        many = ("Received: by x",) * 5
        for recipient, via, expected in [
                (ANN, (ANN,), ("deliver", ("b", 1, 1), "ann")),
                (ALL, (ALL,), ("bounce", ("b", 1, 1), "loop", 500)),
                (ALL, (), ("expand", ("b", 1, 1), ANN, (ANN, BOB), 500)),
                (("nobody", "a"), (("nobody", "a"),), ("bounce", ("b", 1, 1), "unknown user", 500)),
                (("x", "gone"), (), ("bounce", ("b", 1, 1), "too many hops", 500)),
                (BOB, (), ("bounce", ("b", 1, 1), "too many hops", 500))]:
            self.assert_work(started(taken(("b", 1, 1), recipient, many, via)), expected, 500)
        self.assert_work(started(taken(("b", 1, 1), ("x", "gone"))), ("bounce", ("b", 1, 1), "no route", 500), 500)
        self.assert_work(started(taken(("b", 1, 1), BOB)), ("bounce", ("b", 1, 1), "expired", 500), 500)

    def test_the_smallest_tag(self):
        tags = (("b", 3, 1), ("aa", 9, 9), ("b", 20, 1), ("b", 3, 10), ("a", 7, 2))
        host = started(*[taken(tag, ANN) for tag in tags])
        for tag in sorted(tags):
            self.assert_work(host, ("deliver", tag, "ann"))
            host.add(host.next_work(10, ()))
        self.assert_work(host, None)

    def test_items_without_work_are_passed_over(self):
        self.assert_work(started(submitted(BOB, BOB, ANN)), ("deliver", ("a", 3, 0), "ann"))

    def test_items_in_doubt_are_passed_over(self):
        host = started(submitted(BOB, ANN, ANN), ("doubt", ("a", 1, 0), "b"), ("doubt", ("a", 2, 0), "b"))
        self.assert_work(host, ("deliver", ("a", 3, 0), "ann"), 500)
        host.add(("deliver", ("a", 3, 0), "ann"))
        self.assert_work(host, None, 500)

    def test_items_on_which_a_sender_works_are_passed_over(self):
        host = started(submitted(ANN, ANN))
        self.assert_work(host, ("deliver", ("a", 2, 0), "ann"), busy=(("a", 1, 0),))
        self.assert_work(host, ("deliver", ("a", 1, 0), "ann"), busy=(("a", 2, 0), ("a", 1, 1)))
        self.assert_work(host, None, busy=(("a", 2, 0), ("a", 1, 0)))


class Peers(unittest.TestCase):
    """Promise 38."""

    def assert_peers(self, host, *expected, now=10, busy=()):
        before = host.state.to_value()
        self.assertEqual(host.peers(now, busy), expected)
        self.assertEqual(host.state.to_value(), before)

    def test_none(self):
        self.assert_peers(started())
        self.assert_peers(started(submitted(ANN, ALL)))

    def test_owed(self):
        host = started(submitted(BOB, BOB, BOB), ("passed", ("a", 1, 0), "z"), ("passed", ("a", 2, 0), "a"),
                       ("passed", ("a", 3, 0), "z"))
        self.assert_peers(host, "z")

    def test_doubts(self):
        host = started(submitted(BOB, ANN, ("x", "gone")), ("doubt", ("a", 1, 0), "y"), ("doubt", ("a", 2, 0), "m"),
                       ("doubt", ("a", 3, 0), "m"))
        self.assert_peers(host, "m", "y")
        self.assert_peers(host, "m", "y", now=1000, busy=(("a", 1, 0), ("a", 2, 0), ("a", 3, 0)))

    def test_tries(self):
        for tries, peer in enumerate(("c", "b", "d", "c", "b", "d", "c")):
            host = started(submitted(("x", "c")), ("retry", ("a", 1, 0), tries, 10))
            self.assert_peers(host, peer)
        self.assert_peers(started(submitted(("x", "c")), ("retry", ("a", 1, 0), 3001, 10)), "b")

    def test_items_that_are_not_ready_for_the_first_host_of_the_route(self):
        self.assert_peers(started(submitted(("x", "gone"), ("x", "unheard"))))
        self.assert_peers(started(submitted(BOB), ("retry", ("a", 1, 0), 0, 11)))
        self.assert_peers(started(submitted(BOB), ("retry", ("a", 1, 0), 0, 11)), "b", now=11)
        self.assert_peers(started(submitted(BOB)), now=110)
        self.assert_peers(started(submitted(BOB)), "b", now=109)
        self.assert_peers(started(taken(("b", 1, 1), BOB, ("Received: by x",) * 2)))
        self.assert_peers(started(taken(("b", 1, 1), BOB, ("Received: by x",))), "b")

    def test_items_on_which_a_sender_works(self):
        host = started(submitted(BOB, ("x", "c")))
        self.assert_peers(host, "b", "c")
        self.assert_peers(host, "c", busy=(("a", 1, 0),))
        self.assert_peers(host, busy=(("a", 1, 0), ("a", 2, 0)))

    def test_the_own_domain_is_left_out(self):
        self.assert_peers(started(submitted(("x", "own"))))
        self.assert_peers(started(submitted(("x", "own")), ("retry", ("a", 1, 0), 1, 10)), "b")
        self.assert_peers(started(submitted(BOB), ("doubt", ("a", 1, 0), "a")))

    def test_ascending_and_without_duplicates(self):
        host = started(submitted(("x", "old"), ("x", "c"), BOB, BOB, BOB, BOB), ("passed", ("a", 3, 0), "c"),
                       ("doubt", ("a", 4, 0), "aa"), ("doubt", ("a", 5, 0), "zz"))
        self.assert_peers(host, "aa", "b", "c", "zz")

    def test_the_routes_of_now_count(self):
        host = started(submitted(BOB))
        host.routes = (("b", ("q",)),)
        self.assert_peers(host, "q")
        self.assertEqual(host.next_work(10, ()), None)
        host.routes = ()
        self.assert_peers(host)
        self.assertEqual(host.next_work(10, ()), ("bounce", ("a", 1, 0), "no route", 10))

    def test_hosts_do_not_touch_each_other(self):
        one, other = started(), started()
        before = copy.deepcopy(other.state.to_value())
        one.submit(ANN, (BOB,), LINES, 10)
        self.assertEqual(other.state.to_value(), before)
        self.assertEqual(Journal(other.disk).events, [])


if __name__ == "__main__":
    unittest.main()
