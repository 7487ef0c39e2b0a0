"""Promises 28 to 31 as far as one session shows them, and the interface section dawkline/session.py."""

import copy
import inspect
import unittest

from dawkline import session as session_module
from dawkline.directory import Directory
from dawkline.sender import Limits
from dawkline.session import Session
from dawkline.state import State

DIRECTORY = Directory("b", ("bob",), (("all", None, (("bob", "b"),)),))
LIMITS = Limits(100, (5,), 10, 3, 2)
OFFER = ("OFFER a 1 1", "250 go")
FROM = ("FROM <ann@a>", "250 ok")
TO = ("TO <bob@b>", "250 ok")
VIA = ("VIA", "250 ok")
DATA = ("DATA", "354 go")
COMPLETE = (OFFER, FROM, TO, VIA)
TAG = ("a", 1, 1)
KNOWN = ("OFFER a 1 1", "FROM <ann@a>", "FROM <>", "TO <bob@b>", "VIA", "VIA x@y", "DATA", "ASK a 1 1",
         "FORGET a 1 1")
INVALID = (
    "", " ", "  ", ".", "..", "hello", "HELP", "NOOP", "500 unknown", "250 ok", "helo a", "Helo a", "HELo a",
    "HELO", "HELO ", "HELO  a", " HELO a", "HELO a ", "HELO a b", "HELO A", "HELO a.B", "HELO -a", "HELO a-",
    "HELO a..b", "HELO .a", "HELO a.", "HELO a_b", "HELO <a>", "HELO " + "a" * 21, "HELOa",
    "HELO " + ".".join(["a" * 16] * 5), "HELO a@b",
    "offer a 1 1", "OFFER", "OFFER a", "OFFER a 1", "OFFER a 1 1 1", "OFFER a 1 1 ", "OFFER  a 1 1",
    "OFFER a  1 1", "OFFER a 1  1", " OFFER a 1 1", "OFFER A 1 1", "OFFER a_ 1 1", "OFFER  1 1",
    "OFFER a 0 1", "OFFER a 1 0", "OFFER a 00 1", "OFFER a 01 1", "OFFER a 1 01", "OFFER a +1 1",
    "OFFER a 1 +1", "OFFER a -1 1", "OFFER a 1 -1", "OFFER a 1234567890 1", "OFFER a 1 1234567890",
    "OFFER a 0000000001 1", "OFFER a x 1", "OFFER a 1 x", "OFFER a 1.0 1", "OFFER a 1_0 1", "OFFER a 1e1 1",
    "OFFER a,1,1", "OFFER 1 a 1",
    "ask a 1 1", "ASK", "ASK a 1", "ASK a 1 1 1", "ASK a 0 1", "ASK a 1 0", "ASK a 01 1", "ASK a 1 1 ",
    "ASK a  1 1", "ASK B 1 1", "ASK a 1234567890 1", "ASK a 1 1234567890",
    "forget a 1 1", "FORGET", "FORGET a 1", "FORGET a 1 1 1", "FORGET a 0 1", "FORGET a 1 0", "FORGET a 1 02",
    "FORGET a 1 1 ", "FORGET A 1 1", "FORGET a 1234567890 1", "FORGET a 1 1234567890",
    "from <ann@a>", "FROM", "FROM ", "FROM ann@a", "FROM <ann@a", "FROM ann@a>", "FROM <ann@a> ",
    "FROM  <ann@a>", "FROM <ann@a> <>", "FROM <ann>", "FROM <@a>", "FROM <a..b@a>", "FROM < >", "FROM <>>",
    "FROM:<ann@a>", "FROM <ann@a>x", "FROM <ann lee@a>",
    "to <bob@b>", "TO", "TO ", "TO <>", "TO bob@b", "TO <bob@b", "TO <bob@b> ", "TO  <bob@b>",
    "TO <bob@b> <bob@b>", "TO <bob>", "TO <.bob@b>", "TO <bob@b.>",
    "via", "VIA ", "VIA  x@y", "VIA x@y ", "VIA x@y  z@y", "VIA <x@y>", "VIA x", "VIA x@y z", "VIA x@y,z@y",
    "VIA <>",
    "data", "DATA ", "DATA x", " DATA", "Data", "DATA.", "quit", "QUIT ", "QUIT x", " QUIT", "QUIT.",
)


class Talk(unittest.TestCase):
    """A session of the server b and what is said in it."""

    def setUp(self):
        self.state = State("b")
        self.session = Session("b")
        self.now = 17

    def hear(self, line, event=None):
        """Let a line arrive, check the event, and return the reply."""
        before = self.state.to_value()
        found = self.session.receive(line, self.state, DIRECTORY, LIMITS, self.now)
        self.assertIs(type(found), tuple)
        self.assertEqual(len(found), 2)
        self.assertEqual(found[0], event, line)
        self.assertEqual(self.state.to_value(), before, line)
        return found[1]

    def say(self, *pairs):
        """Let lines arrive that are answered as given, without an event."""
        for line, reply in pairs:
            self.assertEqual(self.hear(line), reply, line)

    def greet(self):
        self.say(("HELO a", "250 b"))

    def take(self, tag, peer="a"):
        """Let the state take a tag, and leave no item of it in the queue."""
        self.state.apply(("take", peer, tag, None, ("bob", "b"), (), (), 0))
        self.state.apply(("deliver", tag, "bob"))

    def fill(self, items):
        """Put so many items into the queue."""
        if items > 0:
            self.state.apply(("submit", None, (("bob", "b"),) * items, (), 0))


class Interface(unittest.TestCase):
    def test_names_arguments_and_file(self):
        self.assertEqual(str(inspect.signature(Session)), "(domain)")
        self.assertEqual(str(inspect.signature(vars(Session)["greeting"])), "(self)")
        self.assertEqual(str(inspect.signature(vars(Session)["receive"])),
                         "(self, line, state, directory, limits, now)")
        self.assertEqual(str(inspect.signature(vars(Session)["end"])), "(self)")
        for found in (Session, session_module.Session):
            self.assertEqual(found.__module__, "dawkline.session")

    def test_a_new_session(self):
        session = Session("mail.example")
        self.assertIsNone(session.peer)
        self.assertIs(session.over, False)
        self.assertEqual(session.greeting(), "220 mail.example")
        self.assertIsNone(session.peer)
        self.assertIs(session.over, False)
        self.assertIsNone(session.end())


class Forms(Talk):
    """Promise 28."""

    def test_helo(self):
        for domain in ("a", "mail.example", "x-1.y2", "b", "a" * 20, "0", ".".join(["a" * 15] * 5)):
            self.say(("HELO " + domain, "250 b"))
            self.assertEqual(self.session.peer, domain)

    def test_the_reply_to_helo_has_the_domain_of_the_server(self):
        found = Session("mail.example").receive("HELO a", State("mail.example"), DIRECTORY, LIMITS, 0)
        self.assertEqual(found, (None, "250 mail.example"))

    def test_offers_of_a_tag_that_was_taken_and_of_one_that_was_not(self):
        self.greet()
        self.take(("x", 3, 2), "c")
        for line, reply in (("OFFER x 3 2", "251 taken"), ("OFFER x 3 1", "250 go"), ("OFFER x 2 2", "250 go"),
                            ("OFFER y 3 2", "250 go"), ("OFFER x 3 22", "250 go"), ("OFFER x 32 2", "250 go"),
                            ("OFFER mail.example 999999999 999999999", "250 go"), ("OFFER a 10 100", "250 go"),
                            ("OFFER a 123456789 1", "250 go"), ("OFFER b 1 1", "250 go")):
            self.say((line, reply))

    def test_questions(self):
        self.greet()
        self.take(("x", 3, 2), "c")
        self.fill(1)
        for line, reply in (("ASK x 3 2", "251 taken"), ("ASK x 3 1", "252 never"), ("ASK x 2 2", "252 never"),
                            ("ASK y 3 2", "252 never"), ("ASK b 1 1", "252 never"),
                            ("ASK x 999999999 999999999", "252 never")):
            self.say((line, reply))

    def test_forget(self):
        self.greet()
        self.take(("x", 3, 2), "c")
        self.assertEqual(self.hear("FORGET x 3 2", ("forget", ("x", 3, 2))), "250 ok")
        self.assertEqual(self.hear("FORGET x 3 2", ("forget", ("x", 3, 2))), "250 ok")
        self.state.apply(("forget", ("x", 3, 2)))
        self.say(("FORGET x 3 2", "250 ok"), ("FORGET y 1 1", "250 ok"), ("ASK x 3 2", "252 never"),
                 ("FORGET x 999999999 999999999", "250 ok"))

    def test_paths_and_addresses_with_upper_case_letters(self):
        self.greet()
        self.say(OFFER, ("FROM <Ann.LEE@Mail.Example>", "250 ok"), ("TO <BOB@B>", "250 ok"),
                 ("VIA ALL@A x.Y@z-1.w", "250 ok"), DATA)
        event = ("take", "a", TAG, ("ann.lee", "mail.example"), ("bob", "b"), (("all", "a"), ("x.y", "z-1.w")),
                 (), 17)
        self.assertEqual(self.hear(".", event), "250 taken")

    def test_the_empty_sender_and_no_via(self):
        self.greet()
        self.say(OFFER, ("FROM <>", "250 ok"), ("TO <x@elsewhere>", "250 ok"), ("VIA", "250 ok"), DATA)
        event = ("take", "a", TAG, None, ("x", "elsewhere"), (), (), 17)
        self.assertEqual(self.hear(".", event), "250 taken")

    def test_many_addresses_after_via(self):
        self.greet()
        addresses = tuple(("list-%d" % at, "domain%d" % (at % 7)) for at in range(40))
        self.say(OFFER, FROM, TO, ("VIA " + " ".join("%s@%s" % each for each in addresses), "250 ok"), DATA)
        event = ("take", "a", TAG, ("ann", "a"), ("bob", "b"), addresses, (), 17)
        self.assertEqual(self.hear(".", event), "250 taken")

    def test_quit(self):
        self.greet()
        self.say(("QUIT", "221 bye"))
        self.assertIs(self.session.over, True)

    def test_quit_before_helo(self):
        self.say(("QUIT", "221 bye"))
        self.assertIs(self.session.over, True)
        self.assertIsNone(self.session.peer)

    def test_invalid_forms(self):
        for line in INVALID:
            self.say((line, "500 unknown"))
        self.assertEqual((self.session.peer, self.session.over), (None, False))
        self.greet()
        for line in INVALID:
            self.say((line, "500 unknown"))
        self.assertEqual((self.session.peer, self.session.over), ("a", False))

    def test_500_leaves_the_session_as_it_was_at_each_place_of_an_offer(self):
        self.take(("x", 3, 2))
        for line in INVALID:
            self.session = Session("b")
            self.greet()
            for pair in COMPLETE + (DATA,):
                self.say((line, "500 unknown"), pair)
            event = ("take", "a", TAG, ("ann", "a"), ("bob", "b"), (), (), 17)
            self.assertEqual(self.hear(".", event), "250 taken")

    def test_each_of_the_other_printable_signs_in_a_number_is_invalid(self):
        self.greet()
        for code in range(32, 127):
            if chr(code) not in "0123456789%":
                for word in ("OFFER", "ASK", "FORGET"):
                    self.say((f"{word} a 1{chr(code)} 1", "500 unknown"), (f"{word} a 1 {chr(code)}1", "500 unknown"))


class Order(Talk):
    """Promise 29."""

    def test_before_helo(self):
        self.take(TAG)
        for line in KNOWN:
            self.say((line, "503 order"))
        self.assertIsNone(self.session.peer)
        self.greet()
        self.say(FROM[:1] + ("503 order",))

    def test_without_an_offer(self):
        self.greet()
        for line in ("FROM <ann@a>", "FROM <>", "TO <bob@b>", "TO <nobody@b>", "VIA", "VIA x@y", "DATA"):
            self.say((line, "503 order"))

    def test_each_part_is_used_once_in_an_offer_in_any_order(self):
        self.greet()
        for parts in ((FROM, TO, VIA), (VIA, TO, FROM), (TO, FROM, VIA), (TO, VIA, FROM)):
            self.say(OFFER)
            for at, part in enumerate(parts):
                self.say(part)
                for line, _ in parts[:at + 1]:
                    self.say((line, "503 order"))
            self.say(("FROM <>", "503 order"), ("TO <nobody@b>", "503 order"), ("VIA x@y", "503 order"), DATA)
            event = ("take", "a", TAG, ("ann", "a"), ("bob", "b"), (), (), 17)
            self.assertEqual(self.hear(".", event), "250 taken")

    def test_what_was_said_first_counts(self):
        self.greet()
        self.say(OFFER, ("FROM <>", "250 ok"), ("FROM <ann@a>", "503 order"), ("VIA x@y", "250 ok"),
                 ("VIA", "503 order"), ("TO <all@b>", "250 ok"), ("TO <bob@b>", "503 order"), DATA)
        event = ("take", "a", TAG, None, ("all", "b"), (("x", "y"),), (), 17)
        self.assertEqual(self.hear(".", event), "250 taken")

    def test_data_with_each_one_missing(self):
        self.greet()
        for missing in (FROM, TO, VIA):
            self.say(OFFER, *[part for part in (FROM, TO, VIA) if part != missing])
            self.say(("DATA", "503 order"), ("DATA", "503 order"), missing, DATA)
            event = ("take", "a", TAG, ("ann", "a"), ("bob", "b"), (), (), 17)
            self.assertEqual(self.hear(".", event), "250 taken")

    def test_data_right_after_the_offer(self):
        self.greet()
        self.say(OFFER, ("DATA", "503 order"), FROM, TO, VIA, DATA)

    def test_to_with_an_unknown_name_of_the_server_ends_the_offer(self):
        self.greet()
        for line in ("TO <nobody@b>", "TO <NOBODY@B>", "TO <bo@b>"):
            self.say(OFFER, FROM, VIA, (line, "550 unknown"))
            for refused in ("FROM <ann@a>", "TO <bob@b>", "VIA", "DATA", "TO <nobody@b>"):
                self.say((refused, "503 order"))
        self.say(*COMPLETE, DATA)

    def test_to_with_other_names(self):
        self.greet()
        for line in ("TO <bob@b>", "TO <all@b>", "TO <nobody@c>", "TO <nobody@b.c>", "TO <nobody@c.b>"):
            self.say(OFFER, (line, "250 ok"), FROM, VIA, DATA, ("x", None))
            self.say(("x", None), ("x", None), ("x", None), (".", "552 long"))

    def test_a_second_offer_ends_the_first(self):
        self.greet()
        self.say(OFFER, FROM, TO, ("OFFER c 7 2", "250 go"), ("DATA", "503 order"), ("FROM <>", "250 ok"), TO,
                 VIA, DATA)
        event = ("take", "a", ("c", 7, 2), None, ("bob", "b"), (), (), 17)
        self.assertEqual(self.hear(".", event), "250 taken")

    def test_an_offer_of_the_same_tag_starts_anew(self):
        self.greet()
        self.say(*COMPLETE, OFFER, ("DATA", "503 order"), FROM, TO, VIA, DATA)

    def test_an_offer_of_a_tag_that_was_taken_does_not_start_and_ends_the_one_before(self):
        self.greet()
        self.take(("x", 3, 2))
        for before in ((), (OFFER, FROM), COMPLETE):
            self.say(*before, ("OFFER x 3 2", "251 taken"))
            for line in ("FROM <ann@a>", "TO <bob@b>", "VIA", "DATA"):
                self.say((line, "503 order"))

    def test_ask_and_forget_do_not_end_an_offer(self):
        self.greet()
        self.take(("x", 3, 2))
        for pair in COMPLETE + (DATA,):
            self.say(("ASK x 3 2", "251 taken"), ("ASK a 1 1", "252 never"), ("FORGET y 1 1", "250 ok"))
            self.assertEqual(self.hear("FORGET x 3 2", ("forget", ("x", 3, 2))), "250 ok")
            self.say(pair)
        event = ("take", "a", TAG, ("ann", "a"), ("bob", "b"), (), (), 17)
        self.assertEqual(self.hear(".", event), "250 taken")

    def test_helo_ends_the_offer(self):
        self.greet()
        for domain in ("a", "c"):
            for many in range(1, 5):
                self.say(*COMPLETE[:many], ("HELO " + domain, "250 b"))
                self.assertEqual(self.session.peer, domain)
                for line in ("FROM <ann@a>", "TO <bob@b>", "VIA", "DATA"):
                    self.say((line, "503 order"))


class Messages(Talk):
    """Promise 30."""

    def expect(self, lines, tag=TAG, peer="a"):
        return ("take", peer, tag, ("ann", "a"), ("bob", "b"), (), lines, 17)

    def start(self):
        self.greet()
        self.say(*COMPLETE, DATA)

    def assert_ended(self):
        for line in ("FROM <ann@a>", "TO <bob@b>", "VIA", "DATA"):
            self.say((line, "503 order"))
        self.assertEqual((self.session.peer, self.session.over), ("a", False))

    def test_numbers_of_lines(self):
        for many in range(6):
            self.session = Session("b")
            self.start()
            lines = tuple("line %d" % at for at in range(many))
            self.say(*[(line, None) for line in lines])
            if many <= 3:
                self.assertEqual(self.hear(".", self.expect(lines)), "250 taken")
            else:
                self.say((".", "552 long"))
            self.assert_ended()

    def test_the_limit_of_zero_lines(self):
        limits = Limits(100, (5,), 10, 0, 2)
        for lines, answer in (((), "250 taken"), (("",), "552 long")):
            self.session = Session("b")
            self.start()
            for line in lines:
                self.assertEqual(self.session.receive(line, self.state, DIRECTORY, limits, 17), (None, None))
            event = self.expect(()) if answer == "250 taken" else None
            self.assertEqual(self.session.receive(".", self.state, DIRECTORY, limits, 17), (event, answer))

    def test_dots_at_the_start(self):
        for line, taken in (("..", "."), ("...", ".."), (".a", "a"), ("..a", ".a"), (". ", " "), ("a.", "a."),
                            (" .", " ."), ("", "")):
            self.session = Session("b")
            self.start()
            self.say((line, None), (line, None))
            self.assertEqual(self.hear(".", self.expect((taken, taken))), "250 taken")

    def test_lines_that_look_like_commands_belong_to_the_message(self):
        for line in ("QUIT", "HELO c", "DATA", "OFFER a 2 1", "ASK a 1 1", "FORGET a 1 1", "nonsense", ""):
            self.state = State("b")
            self.take(TAG)
            self.session = Session("b")
            self.greet()
            self.say(("OFFER z 1 1", "250 go"), FROM, TO, VIA, DATA, (line, None), ("FROM <>", None))
            self.assertEqual((self.session.peer, self.session.over), ("a", False))
            self.assertEqual(self.hear(".", self.expect((line, "FROM <>"), ("z", 1, 1))), "250 taken")
            self.assert_ended()

    def test_the_event_carries_all_that_was_said(self):
        self.say(("HELO x.y", "250 b"))
        self.say(("OFFER mail.example 123456789 12", "250 go"), ("VIA l@m n@o", "250 ok"),
                 ("TO <to@far>", "250 ok"), ("FROM <From@here>", "250 ok"), DATA, ("To: x", None), ("", None))
        self.now = 99
        event = ("take", "x.y", ("mail.example", 123456789, 12), ("from", "here"), ("to", "far"),
                 (("l", "m"), ("n", "o")), ("To: x", ""), 99)
        self.assertEqual(self.hear(".", event), "250 taken")

    def test_the_event_can_be_applied(self):
        self.start()
        self.say(("..", None))
        event = self.expect((".",))
        self.hear(".", event)
        self.assertEqual(self.state.apply(event), [TAG])
        self.assertEqual(self.state.queue[TAG].lines, ("Received: by b", "."))
        self.assertEqual(self.state.taken, {TAG: "a"})
        self.say(("OFFER a 1 1", "251 taken"), ("ASK a 1 1", "251 taken"))

    def test_a_tag_that_was_taken_meanwhile(self):
        self.start()
        self.say(("x", None))
        self.take(TAG, "c")
        self.say((".", "251 taken"))
        self.assert_ended()

    def test_a_queue_that_is_nearly_full_and_one_that_is_full(self):
        for items in range(4):
            self.state = State("b")
            self.fill(items)
            self.session = Session("b")
            self.start()
            if items < 2:
                self.assertEqual(self.hear(".", self.expect(())), "250 taken")
            else:
                self.say((".", "452 full"))
            self.assert_ended()

    def test_items_in_doubt_count(self):
        self.fill(2)
        for serial in (1, 2):
            self.state.apply(("doubt", ("b", serial, 0), "c"))
        self.start()
        self.say((".", "452 full"))
        self.assert_ended()

    def test_of_several_answers_the_first_one_counts(self):
        long = [("x", None)] * 4
        for taken, lines, items, answer in ((True, long, 2, "251 taken"), (True, long, 0, "251 taken"),
                                            (True, [], 2, "251 taken"), (False, long, 2, "552 long"),
                                            (False, long, 0, "552 long"), (False, [], 2, "452 full")):
            self.state = State("b")
            self.session = Session("b")
            self.start()
            if taken:
                self.take(TAG)
            self.fill(items)
            self.say(*lines, (".", answer))
            self.assert_ended()

    def test_what_counts_is_the_state_behind_the_dot(self):
        self.fill(2)
        self.start()
        self.state.apply(("deliver", ("b", 1, 0), "bob"))
        self.assertEqual(self.hear(".", self.expect(())), "250 taken")

    def test_two_messages_in_one_session(self):
        self.start()
        self.say(("one", None))
        self.assertEqual(self.hear(".", self.expect(("one",))), "250 taken")
        self.say(("OFFER a 2 1", "250 go"), FROM, TO, VIA, DATA, ("two", None))
        self.assertEqual(self.hear(".", self.expect(("two",), ("a", 2, 1))), "250 taken")

    def test_a_dot_outside_of_a_message_is_unknown(self):
        self.start()
        self.hear(".", self.expect(()))
        self.say((".", "500 unknown"))

    def test_arguments_stay_as_they_were(self):
        self.start()
        directory, limits = copy.deepcopy(vars(DIRECTORY)), copy.deepcopy(vars(LIMITS))
        self.say(("x", None))
        self.hear(".", self.expect(("x",)))
        self.assertEqual((vars(DIRECTORY), vars(LIMITS)), (directory, limits))

    def test_two_sessions_do_not_touch_each_other(self):
        self.start()
        other = Session("b")
        self.assertEqual(other.receive("DATA", self.state, DIRECTORY, LIMITS, 0), (None, "503 order"))
        self.say(("x", None))
        self.assertEqual(self.hear(".", self.expect(("x",))), "250 taken")


class Ends(Talk):
    """Promise 31, the part that one session shows."""

    def test_the_peer_before_and_after_helo(self):
        self.assertIsNone(self.session.peer)
        self.greet()
        self.assertEqual(self.session.peer, "a")
        self.say(("HELO c.d", "250 b"))
        self.assertEqual(self.session.peer, "c.d")
        self.say(("HELO X", "500 unknown"))
        self.assertEqual(self.session.peer, "c.d")

    def test_the_last_helo_names_the_peer_of_the_event(self):
        self.greet()
        self.say(("HELO c", "250 b"), *COMPLETE, DATA)
        event = ("take", "c", TAG, ("ann", "a"), ("bob", "b"), (), (), 17)
        self.assertEqual(self.hear(".", event), "250 taken")

    def assert_dead(self):
        self.assertIs(self.session.over, True)
        peer = self.session.peer
        for line in ("HELO z",) + KNOWN + INVALID + ("QUIT",):
            self.say((line, None))
        self.assertIs(self.session.over, True)
        self.assertEqual(self.session.peer, peer)

    def test_behind_quit(self):
        self.take(TAG)
        self.greet()
        self.say(("QUIT", "221 bye"))
        self.assert_dead()

    def test_behind_end(self):
        self.take(TAG)
        self.session.end()
        self.assert_dead()
        self.assertIsNone(self.session.peer)

    def test_end_at_each_place_of_a_dialogue(self):
        pairs = (("HELO a", "250 b"),) + COMPLETE + (DATA, ("x", None))
        for many in range(len(pairs) + 1):
            self.session = Session("b")
            self.say(*pairs[:many])
            self.assertIs(self.session.over, False)
            self.session.end()
            self.assert_dead()
            self.session.end()
            self.assert_dead()

    def test_quit_within_an_offer(self):
        self.greet()
        self.say(*COMPLETE, ("QUIT", "221 bye"))
        self.assert_dead()


if __name__ == "__main__":
    unittest.main()
