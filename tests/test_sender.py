"""Promises 32, 33 and 34, and the interface section dawkline/sender.py."""

import copy
import inspect
import itertools
import unittest

from dawkline import sender as sender_module
from dawkline.directory import Directory
from dawkline.sender import Limits, Sender, View, is_ready
from dawkline.state import Item, State

ANN = ("ann", "a")
BOB = ("bob", "b")
LINES = ("To: bob", "", ".", "..x", "end")
DIRECTORY = Directory("a", ("ann",), (("all", None, ()),))
ROUTES = (("b", ("b", "hub")), ("c", ("c",)), ("", ("hub",)))
LIMITS = Limits(100, (5, 7, 20), 3, 10, 10)
MALFORMED = ("", "2", "25", "250", "25 ok", "250-ok", "250ok", "2500 ok", " 250 ok", "ok", "25x ok", "x50 ok",
             "2 50 ok", "+25 ok", "-25 ok", "2.5 ok", "354", "   ")
# Commands of the task OFFER with the reply that makes the sender go on.
GOOD = (("OFFER", "250 go"), ("FROM", "250 ok"), ("TO", "250 ok"), ("VIA", "250 ok"), ("DATA", "354 go"),
        (".", "250 taken"))


class Host(unittest.TestCase):
    """The host a with a sender to b: events are applied when the sender adds them."""

    def setUp(self):
        self.state = State("a")
        self.sender = Sender("b")
        self.now = 10
        self.busy = ()
        self.limits = LIMITS

    def view(self):
        return View(self.state, DIRECTORY, ROUTES, self.limits, self.now, self.busy)

    def perform(self, steps):
        """Apply the events among steps, and return the steps as they are."""
        self.assertIs(type(steps), list)
        for step in steps:
            self.assertIs(type(step), tuple)
            if step[0] == "add":
                self.state.apply(step[1])
        return steps

    def hear(self, reply):
        """Let a reply arrive; return the steps that follow, those of the next task among them."""
        steps = self.perform(self.sender.receive(reply, self.view()))
        if self.sender.idle:
            self.assertIsNone(self.sender.working)
            self.assertIs(self.sender.over, False)
            steps = steps + self.perform(self.sender.next_task(self.view()))
        return steps

    def greet(self):
        """Go through the greeting and HELO, and return the steps of the first task."""
        self.assertEqual(self.hear("220 b"), [("send", "HELO a")])
        return self.hear("250 b")

    def put(self, recipient=BOB, sender=ANN, lines=LINES, time=10):
        """Submit a message, and return its tag."""
        return self.state.apply(("submit", sender, (recipient,), lines, time))[0]

    def assert_over(self):
        self.assertEqual((self.sender.over, self.sender.idle, self.sender.working), (True, False, None))

    def assert_sends(self, steps, *lines):
        self.assertEqual(steps, [("send", line) for line in lines])

    def offer_up_to(self, word):
        """Offer the first item up to the command with this word."""
        steps = self.greet()
        for at, (command, reply) in enumerate(GOOD):
            self.assertEqual(steps[-1][1].split(" ")[0], command)
            if command == word:
                return
            steps = self.hear(reply)


class Interface(unittest.TestCase):
    def test_names_arguments_and_file(self):
        self.assertEqual(str(inspect.signature(Limits)), "(lifetime, waits, most_hops, most_lines, most_items)")
        self.assertEqual(str(inspect.signature(is_ready)), "(item, host, time, directory, routes, limits)")
        self.assertEqual(str(inspect.signature(Sender)), "(peer)")
        self.assertEqual(str(inspect.signature(vars(Sender)["receive"])), "(self, reply, view)")
        self.assertEqual(str(inspect.signature(vars(Sender)["next_task"])), "(self, view)")
        self.assertEqual(str(inspect.signature(View)), "(state, directory, routes, limits, now, busy)")
        for found in (Limits, is_ready, Sender, View, sender_module.Sender):
            self.assertEqual(found.__module__, "dawkline.sender")

    def test_attributes(self):
        limits = Limits(1, (2, 3), 4, 5, 6)
        self.assertEqual((limits.lifetime, limits.waits, limits.most_hops, limits.most_lines, limits.most_items),
                         (1, (2, 3), 4, 5, 6))
        state = State("a")
        view = View(state, DIRECTORY, ROUTES, limits, 7, (("a", 1, 0),))
        self.assertIs(view.state, state)
        self.assertEqual((view.directory, view.routes, view.limits, view.now, view.busy),
                         (DIRECTORY, ROUTES, limits, 7, (("a", 1, 0),)))
        sender = Sender("mail.example")
        self.assertEqual((sender.peer, sender.over, sender.idle, sender.working),
                         ("mail.example", False, False, None))


class Ready(unittest.TestCase):
    """Promise 33."""

    def assert_ready(self, expected, host="b", time=10, limits=LIMITS, routes=ROUTES, **parts):
        values = {"tag": ("a", 1, 0), "sender": ANN, "recipient": BOB, "lines": ("Received: by a",), "via": (),
                  "born": 10, "tries": 0, "due": 10, "doubt": None, **parts}
        self.assertIs(is_ready(Item(**values), host, time, DIRECTORY, routes, limits), expected)

    def test_a_new_item(self):
        self.assert_ready(True)

    def test_doubt(self):
        for doubt in ("b", "hub", "x"):
            self.assert_ready(False, doubt=doubt)

    def test_recipients(self):
        for recipient, host in ((ANN, "hub"), (("all", "a"), "hub"), (("nobody", "a"), "hub")):
            self.assert_ready(False, host=host, recipient=recipient)
        self.assert_ready(True, host="hub", recipient=("x", "a.b"))
        self.assert_ready(True, host="b", recipient=("x", "a.b"))

    def test_hops(self):
        trace = "Received: by a"
        for lines, expected in (((), True), ((trace,), True), ((trace,) * 2, True), ((trace,) * 3, False),
                                ((trace,) * 4, False), ((trace, trace, "", trace), True)):
            self.assert_ready(expected, lines=lines)
        self.assert_ready(False, lines=(trace,), limits=Limits(100, (5,), 1, 1, 1))
        self.assert_ready(True, lines=(), limits=Limits(100, (5,), 1, 1, 1))

    def test_due(self):
        for due, expected in ((0, True), (9, True), (10, True), (11, False), (50, False)):
            self.assert_ready(expected, due=due)

    def test_age(self):
        for time, expected in ((10, True), (108, True), (109, True), (110, False), (111, False), (1000, False)):
            self.assert_ready(expected, time=time)
        self.assert_ready(False, limits=Limits(1, (5,), 9, 9, 9), time=11)
        self.assert_ready(True, limits=Limits(1, (5,), 9, 9, 9), time=10)

    def test_routes(self):
        self.assert_ready(True, host="hub")
        for host in ("c", "a", "x", "", "bob"):
            self.assert_ready(False, host=host)
        self.assert_ready(False, host="b", recipient=("x", "c"))
        self.assert_ready(False, host="hub", recipient=("x", "c"))
        self.assert_ready(True, host="hub", recipient=("x", "elsewhere"))
        self.assert_ready(False, routes=())
        self.assert_ready(False, routes=(("b", ()), ("", ("b",))))

    def test_tries_do_not_count(self):
        self.assert_ready(True, tries=1000)

    def test_arguments_stay_as_they_were(self):
        item = Item(("a", 1, 0), ANN, BOB, LINES, (), 10, 0, 10, None)
        before = item.to_value()
        limits = copy.deepcopy(vars(LIMITS))
        is_ready(item, "b", 10, DIRECTORY, ROUTES, LIMITS)
        self.assertEqual((item.to_value(), vars(LIMITS)), (before, limits))


class Start(Host):
    """Promise 32: greeting, HELO, and the end when nothing is left."""

    def test_greeting_helo_and_quit(self):
        self.assertEqual((self.sender.idle, self.sender.working, self.sender.over), (False, None, False))
        self.assert_sends(self.sender.receive("220 b", self.view()), "HELO a")
        self.assertEqual((self.sender.idle, self.sender.working, self.sender.over), (False, None, False))
        self.assertEqual(self.sender.receive("250 b", self.view()), [])
        self.assertEqual((self.sender.idle, self.sender.working, self.sender.over), (True, None, False))
        self.assert_sends(self.sender.next_task(self.view()), "QUIT")
        self.assertEqual((self.sender.idle, self.sender.working, self.sender.over), (False, None, False))
        self.assertEqual(self.sender.receive("221 bye", self.view()), [])
        self.assert_over()
        self.assertEqual(self.sender.peer, "b")

    def test_other_greetings_end_the_connection(self):
        for greeting in ("221 b", "250 b", "421 busy", "554 no", "22 0", "120 b") + MALFORMED:
            self.sender = Sender("b")
            self.assertEqual(self.sender.receive(greeting, self.view()), [])
            self.assert_over()

    def test_greetings_with_other_text(self):
        for greeting in ("220 ", "220 other", "220 b ready"):
            self.sender = Sender("b")
            self.assert_sends(self.sender.receive(greeting, self.view()), "HELO a")

    def test_replies_to_helo(self):
        for reply, goes_on in (("250 b", True), ("200 x", True), ("299 x", True), ("251 ", True),
                               ("354 go", False), ("421 busy", False), ("500 unknown", False),
                               ("100 x", False), ("050 x", False)):
            self.sender = Sender("b")
            self.sender.receive("220 b", self.view())
            self.assertEqual(self.sender.receive(reply, self.view()), [])
            if goes_on:
                self.assertEqual((self.sender.over, self.sender.idle), (False, True))
            else:
                self.assert_over()

    def test_any_reply_to_quit_ends_the_connection(self):
        for reply in ("221 bye", "250 ok", "421 x", "500 unknown", "999 x") + MALFORMED:
            self.sender = Sender("b")
            self.assert_sends(self.greet(), "QUIT")
            self.assertEqual(self.sender.receive(reply, self.view()), [])
            self.assert_over()

    def test_lines_behind_the_end_have_no_effect(self):
        self.put()
        self.greet()
        self.sender.receive("nonsense", self.view())
        self.assert_over()
        for reply in ("250 go", "220 b", "354 go", "550 x", "nonsense"):
            self.assertEqual(self.sender.receive(reply, self.view()), [])
            self.assert_over()

    def test_a_line_between_two_tasks(self):
        tag = self.put()
        self.sender.receive("220 b", self.view())
        self.sender.receive("250 b", self.view())
        for reply in ("250 again", "450 x", "550 x"):
            self.assertEqual(self.sender.receive(reply, self.view()), [])
            self.assertEqual((self.sender.idle, self.sender.over), (True, False))
        self.assert_sends(self.sender.next_task(self.view()), "OFFER a 1 1")
        self.assertEqual(self.sender.working, tag)
        self.sender = Sender("b")
        self.sender.receive("220 b", self.view())
        self.sender.receive("250 b", self.view())
        self.assertEqual(self.sender.receive("nonsense", self.view()), [])
        self.assert_over()


class Tasks(Host):
    """Promise 32: which task comes next."""

    def owe(self, peer, *tags):
        for host, serial, leg in tags:
            self.state.owed[host, serial, leg] = peer

    def doubt(self, tag, peer="b"):
        self.state.apply(("doubt", tag, peer))

    def test_the_order_of_the_four_tasks(self):
        first, second = self.put(), self.put()
        self.doubt(second)
        self.owe("b", ("z", 9, 9))
        self.assert_sends(self.greet(), "FORGET z 9 9")
        self.assertIsNone(self.sender.working)
        self.assertEqual(self.hear("250 ok"), [("add", ("forgotten", ("z", 9, 9))), ("send", "ASK a 2 1")])
        self.assertEqual(self.sender.working, second)
        self.assertEqual(self.hear("251 taken"), [("add", ("passed", second, "b")), ("send", "FORGET a 2 1")])
        self.assertIsNone(self.sender.working)
        self.assertEqual(self.hear("250 ok"), [("add", ("forgotten", ("a", 2, 1))), ("send", "OFFER a 1 1")])
        self.assertEqual(self.sender.working, first)
        self.assertEqual(self.hear("251 taken"), [("add", ("passed", first, "b")), ("send", "FORGET a 1 1")])
        self.assertEqual(self.hear("250 ok"), [("add", ("forgotten", ("a", 1, 1))), ("send", "QUIT")])
        self.assertEqual((self.state.queue, self.state.owed), ({}, {}))

    def test_tags_are_compared_as_tuples(self):
        tags = (("a", 10, 1), ("a", 9, 2), ("a", 9, 10), ("b", 1, 1), ("aa", 1, 1))
        self.owe("b", *tags)
        steps = self.greet()
        for host, serial, leg in sorted(tags):
            self.assert_sends(steps[-1:], f"FORGET {host} {serial} {leg}")
            steps = self.hear("250 ok")
        self.assert_sends(steps[-1:], "QUIT")

    def test_only_tags_that_are_owed_to_the_peer(self):
        self.owe("c", ("a", 1, 1))
        self.owe("b", ("a", 2, 1))
        self.owe("a", ("a", 3, 1))
        self.assert_sends(self.greet(), "FORGET a 2 1")
        self.assertEqual(self.hear("250 ok"), [("add", ("forgotten", ("a", 2, 1))), ("send", "QUIT")])

    def test_each_tag_is_forgotten_once_in_a_connection(self):
        self.owe("b", ("a", 1, 1), ("a", 2, 1))
        for reply in ("500 unknown", "450 x", "354 x", "100 x"):
            self.sender = Sender("b")
            self.assert_sends(self.greet(), "FORGET a 1 1")
            self.assert_sends(self.hear(reply), "FORGET a 2 1")
            self.assert_sends(self.hear(reply), "QUIT")
            self.assertEqual(len(self.state.owed), 2)

    def test_replies_to_forget(self):
        for reply in ("250 ok", "200 x", "299 x", "251 taken"):
            self.owe("b", ("a", 1, 1))
            self.sender = Sender("b")
            self.greet()
            self.assertEqual(self.hear(reply), [("add", ("forgotten", ("a", 1, 1))), ("send", "QUIT")])
            self.assertEqual(self.state.owed, {})

    def test_items_in_doubt_with_another_host_are_not_asked_about(self):
        for peer in ("c", "a", "hub"):
            self.doubt(self.put(), peer)
        self.assert_sends(self.greet(), "QUIT")

    def test_items_in_doubt_on_which_another_sender_works(self):
        first, second = self.put(), self.put()
        self.doubt(first)
        self.doubt(second)
        self.busy = (first,)
        self.assert_sends(self.greet(), "ASK a 2 1")
        self.busy = (("a", 1, 1), ("a", 2, 0))
        self.assert_sends(self.hear("400 x"), "ASK a 1 1")
        self.assert_sends(self.hear("400 x"), "QUIT")

    def test_items_in_doubt_are_asked_about_in_the_order_of_their_tags_once(self):
        self.state.apply(("take", "c", ("a", 12, 3), None, BOB, (), (), 10))
        self.state.apply(("take", "c", ("B", 1, 1), None, BOB, (), (), 10))
        self.state.apply(("take", "c", ("a", 2, 7), None, BOB, (), (), 10))
        for tag in list(self.state.queue):
            self.doubt(tag)
        self.assert_sends(self.greet(), "ASK B 1 2")
        self.assertEqual(self.sender.working, ("B", 1, 1))
        self.assert_sends(self.hear("450 x"), "ASK a 2 8")
        self.assertEqual(self.sender.working, ("a", 2, 7))
        self.assert_sends(self.hear("550 x"), "ASK a 12 4")
        self.assert_sends(self.hear("250 x"), "QUIT")
        self.assertEqual({item.doubt for item in self.state.queue.values()}, {"b"})

    def test_ready_items_are_offered_in_the_order_of_their_tags_once(self):
        self.state.apply(("take", "c", ("a", 12, 3), None, BOB, (), (), 10))
        self.state.apply(("take", "c", ("a", 2, 7), None, BOB, (), (), 10))
        self.limits = Limits(100, (0,), 3, 10, 10)
        self.assert_sends(self.greet(), "OFFER a 2 8")
        self.assertEqual(self.sender.working, ("a", 2, 7))
        self.assertEqual(self.hear("450 x"), [("add", ("retry", ("a", 2, 7), 1, 10)), ("send", "OFFER a 12 4")])
        self.assertEqual(self.sender.working, ("a", 12, 3))
        self.assertEqual(self.hear("450 x"), [("add", ("retry", ("a", 12, 3), 1, 10)), ("send", "QUIT")])
        self.assertIsNone(self.sender.working)

    def test_items_that_are_not_ready_are_not_offered(self):
        self.put(ANN)
        self.put(("x", "c"))
        self.state.apply(("retry", self.put(), 1, 11))
        self.doubt(self.put(), "c")
        self.put(lines=("Received: by x", "Received: by y"))
        self.put(time=-90)
        self.assert_sends(self.greet(), "QUIT")

    def test_items_on_which_another_sender_works_are_not_offered(self):
        first, second = self.put(), self.put()
        self.busy = (first, ("a", 7, 0))
        self.assert_sends(self.greet(), "OFFER a 2 1")
        self.assertEqual(self.sender.working, second)
        self.busy = (("a", 1, 1),)
        self.assertEqual(self.hear("450 x")[-1], ("send", "OFFER a 1 1"))

    def test_what_is_seen_at_the_time_of_the_choice_counts(self):
        self.sender.receive("220 b", self.view())
        self.sender.receive("250 b", self.view())
        tag = self.put()
        self.assert_sends(self.sender.next_task(self.view()), "OFFER a 1 1")
        self.hear("450 x")
        self.now = 15
        self.assertEqual(self.state.queue[tag].due, 15)
        self.sender = Sender("b")
        self.assert_sends(self.greet(), "OFFER a 1 1")

    def test_an_item_that_was_asked_about_can_be_offered_in_the_same_connection(self):
        first, second = self.put(), self.put()
        self.doubt(first)
        self.assert_sends(self.greet(), "ASK a 1 1")
        self.assertEqual(self.hear("252 never"), [("add", ("retry", first, 1, 15)), ("send", "OFFER a 2 1")])
        self.now = 15
        self.assertEqual(self.hear("450 x"), [("add", ("retry", second, 1, 20)), ("send", "OFFER a 1 1")])

    def test_next_task_changes_only_the_sender(self):
        self.put()
        before = self.state.to_value()
        self.sender.receive("220 b", self.view())
        self.sender.receive("250 b", self.view())
        self.sender.next_task(self.view())
        self.assertEqual(self.state.to_value(), before)

    def test_two_senders_do_not_touch_each_other(self):
        self.put()
        other = Sender("b")
        self.greet()
        self.assertEqual((other.idle, other.working, other.over), (False, None, False))
        other.receive("220 b", self.view())
        other.receive("250 b", self.view())
        self.assert_sends(other.next_task(self.view()), "OFFER a 1 1")


class Offering(Host):
    """Promise 34."""

    def test_the_whole_task(self):
        tag = self.state.apply(("take", "c", ("z", 4, 2), None, BOB, (("l", "m"), ("n", "o")), LINES, 10))[0]
        self.assert_sends(self.greet(), "OFFER z 4 3")
        for reply, line in (("250 go", "FROM <>"), ("250 ok", "TO <bob@b>"), ("250 ok", "VIA l@m n@o"),
                            ("250 ok", "DATA")):
            self.assert_sends(self.hear(reply), line)
            self.assertEqual((self.sender.idle, self.sender.working, self.sender.over), (False, tag, False))
        self.assertEqual(self.hear("354 go"), [
            ("send", "Received: by a"), ("send", "To: bob"), ("send", ""), ("send", ".."), ("send", "...x"),
            ("send", "end"), ("add", ("doubt", tag, "b")), ("send", ".")])
        self.assertEqual((self.sender.idle, self.sender.working, self.sender.over), (False, tag, False))
        self.assertEqual(self.sender.receive("250 taken", self.view()), [("add", ("passed", tag, "b"))])
        self.assertEqual((self.sender.idle, self.sender.working, self.sender.over), (True, None, False))

    def test_a_sender_and_no_via(self):
        self.put()
        self.assert_sends(self.greet(), "OFFER a 1 1")
        for reply, line in (("250 go", "FROM <ann@a>"), ("250 ok", "TO <bob@b>"), ("250 ok", "VIA"),
                            ("250 ok", "DATA")):
            self.assert_sends(self.hear(reply), line)

    def test_an_empty_message(self):
        item = Item(("a", 1, 0), ANN, BOB, (), (), 10, 0, 10, None)
        self.state.queue[item.tag] = item
        self.offer_up_to("DATA")
        self.assertEqual(self.hear("354 go"), [("add", ("doubt", item.tag, "b")), ("send", ".")])

    def test_the_replies_by_which_the_peer_has_the_item(self):
        for word, reply in (("OFFER", "251 taken"), (".", "250 taken"), (".", "251 taken"), (".", "250 ")):
            self.setUp()
            tag = self.put()
            self.offer_up_to(word)
            self.assertEqual(self.hear(reply), [("add", ("passed", tag, "b")), ("send", "FORGET a 1 1")])
            self.assertEqual(self.state.owed, {("a", 1, 1): "b"})

    def test_replies_with_5_bounce(self):
        for word, _ in GOOD:
            for reply in ("500 unknown", "503 order", "550 unknown", "552 long", "599 ", "555 a  b "):
                self.setUp()
                tag = self.put()
                self.offer_up_to(word)
                event = ("bounce", tag, "refused by b: " + reply, 10)
                self.assertEqual(self.hear(reply), [("add", event), ("send", "QUIT")])
                report = self.state.queue["a", 2, 0]
                self.assertEqual(report.lines[-1], "Reason: refused by b: " + reply)
                self.assertEqual(list(self.state.queue), [("a", 2, 0)])

    def test_other_replies_lead_to_retry(self):
        replies = {"100 x", "150 x", "200 x", "220 b", "221 bye", "249 x", "250 ok", "251 taken", "252 never",
                   "253 x", "300 x", "353 x", "354 go", "355 x", "400 x", "450 x", "452 full", "499 x", "600 x",
                   "999 x", "000 x", "025 x"}
        for word, good in GOOD:
            for reply in sorted(replies):
                if reply[:3] == good[:3] or (word in ("OFFER", ".") and reply[:3] == "251"):
                    continue
                self.setUp()
                tag = self.put()
                self.offer_up_to(word)
                self.assertEqual(self.state.queue[tag].doubt, "b" if word == "." else None)
                self.assertEqual(self.hear(reply), [("add", ("retry", tag, 1, 15)), ("send", "QUIT")], (word, reply))
                self.assertIsNone(self.state.queue[tag].doubt)

    def test_tries_and_due(self):
        for tries, wait in ((0, 5), (1, 7), (2, 20), (3, 20), (4, 20), (100, 20)):
            self.setUp()
            tag = self.put()
            self.state.apply(("retry", tag, tries, 9))
            self.now = 31
            self.offer_up_to("TO")
            self.assertEqual(self.hear("450 x")[0], ("add", ("retry", tag, tries + 1, 31 + wait)))

    def test_one_wait(self):
        for tries in (0, 1, 2, 9):
            self.setUp()
            self.limits = Limits(100, (3,), 3, 10, 10)
            tag = self.put()
            self.state.apply(("retry", tag, tries, 9))
            self.offer_up_to("OFFER")
            self.assertEqual(self.hear("452 full")[0], ("add", ("retry", tag, tries + 1, 13)))

    def test_the_time_of_the_reply_counts(self):
        tag = self.put()
        self.offer_up_to(".")
        self.now = 40
        self.assertEqual(self.hear("452 full")[0], ("add", ("retry", tag, 1, 45)))
        self.setUp()
        tag = self.put()
        self.offer_up_to("FROM")
        self.now = 50
        self.assertEqual(self.hear("550 x")[0], ("add", ("bounce", tag, "refused by b: 550 x", 50)))

    def test_replies_to_ask(self):
        for tries, wait in ((0, 5), (1, 7), (2, 20), (3, 20), (9, 20)):
            self.setUp()
            tag = self.put()
            self.state.apply(("retry", tag, tries, 9))
            self.state.apply(("doubt", tag, "b"))
            self.now = 12
            self.assert_sends(self.greet(), "ASK a 1 1")
            self.assertEqual(self.hear("252 never"), [("add", ("retry", tag, tries + 1, 12 + wait)), ("send", "QUIT")])
            self.assertIsNone(self.state.queue[tag].doubt)

    def test_the_answer_that_the_item_was_taken(self):
        tag = self.put()
        self.state.apply(("doubt", tag, "b"))
        self.greet()
        self.assertEqual(self.hear("251 x"), [("add", ("passed", tag, "b")), ("send", "FORGET a 1 1")])

    def test_other_replies_to_ask_have_no_effect(self):
        for reply in ("250 ok", "253 x", "220 b", "354 go", "450 x", "500 unknown", "503 order", "550 x", "100 x"):
            self.setUp()
            tag = self.put()
            self.state.apply(("doubt", tag, "b"))
            before = self.state.to_value()
            self.greet()
            self.assert_sends(self.hear(reply), "QUIT")
            self.assertEqual(self.state.to_value(), before)

    def test_malformed_lines_end_the_connection_without_an_event(self):
        for line, (word, _) in itertools.product(MALFORMED, GOOD):
            self.setUp()
            tag = self.put()
            self.offer_up_to(word)
            before = self.state.to_value()
            self.assertEqual(self.hear(line), [])
            self.assert_over()
            self.assertEqual(self.state.to_value(), before)
            self.assertEqual(self.state.queue[tag].doubt, "b" if word == "." else None)

    def test_malformed_lines_in_the_other_tasks(self):
        for line in MALFORMED:
            for task in ("FORGET", "ASK", "HELO"):
                self.setUp()
                tag = self.put()
                if task == "FORGET":
                    self.state.owed["a", 9, 1] = "b"
                if task == "ASK":
                    self.state.apply(("doubt", tag, "b"))
                self.greet() if task != "HELO" else self.hear("220 b")
                before = self.state.to_value()
                self.assertEqual(self.hear(line), [])
                self.assert_over()
                self.assertEqual(self.state.to_value(), before)

    def test_an_item_is_offered_again_in_the_next_connection(self):
        self.put()
        for word, _ in GOOD[:5]:
            self.sender = Sender("b")
            self.offer_up_to(word)
            self.sender.receive("x", self.view())
            self.assert_over()
        self.sender = Sender("b")
        self.offer_up_to(".")
        self.sender.receive("x", self.view())
        self.sender = Sender("b")
        self.assert_sends(self.greet(), "ASK a 1 1")

    def test_the_state_is_changed_by_the_events_only(self):
        self.put()
        self.sender.receive("220 b", self.view())
        self.sender.receive("250 b", self.view())
        self.sender.next_task(self.view())
        before = self.state.to_value()
        for _, reply in GOOD:
            self.sender.receive(reply, self.view())
            self.assertEqual(self.state.to_value(), before)


if __name__ == "__main__":
    unittest.main()
