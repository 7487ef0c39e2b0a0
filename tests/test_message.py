"""Promises 2, 5, 6 and 26, and the interface section dawkline/message.py."""

import inspect
import itertools
import unittest

from dawkline import message
from dawkline.message import hops, report, stuff, trace, unstuff

# The characters of a line (promise 2).
SIGNS = "".join([chr(code) for code in range(32, 127) if chr(code) != "%"])
LONGEST_DOMAIN = "a." * 39 + "bc"
LONGEST_LOCAL = "x" * 40


class Interface(unittest.TestCase):
    def test_names_arguments_and_file(self):
        expected = {"trace": ["domain"], "hops": ["lines"], "stuff": ["lines"],
                    "unstuff": ["line"], "report": ["recipient", "reason"]}
        for name, arguments in expected.items():
            found = getattr(message, name)
            self.assertEqual(list(inspect.signature(found).parameters), arguments)
            self.assertEqual(found.__module__, "dawkline.message")

    def test_examples_of_the_document(self):
        self.assertEqual(hops(("Received: by a", "To: x", "", "Received: by b")), 1)
        self.assertEqual(stuff((".", "a.", "..b")), ("..", "a.", "...b"))

    def test_kinds_of_values(self):
        self.assertIs(type(trace("a")), str)
        self.assertIs(type(hops(("a",))), int)
        self.assertIs(type(stuff(())), tuple)
        self.assertIs(type(stuff((".", "a"))), tuple)
        self.assertIs(type(unstuff("..")), str)
        self.assertIs(type(report(("a", "b"), "loop")), tuple)


class Traces(unittest.TestCase):
    """Promise 5."""

    def test_trace(self):
        self.assertEqual(trace("a"), "Received: by a")
        self.assertEqual(trace("mail.example"), "Received: by mail.example")
        self.assertEqual(trace(LONGEST_DOMAIN), "Received: by " + LONGEST_DOMAIN)

    def test_a_trace_at_the_top_is_one_more_hop(self):
        for lines in ((), ("",), ("a",), ("", "Received: by b"), ("Received: by b", "", "x")):
            self.assertEqual(hops((trace("mail.example"),) + lines), hops(lines) + 1)


class Hops(unittest.TestCase):
    """Promise 5."""

    def test_no_lines(self):
        self.assertEqual(hops(()), 0)

    def test_without_an_empty_line_all_lines_are_head(self):
        self.assertEqual(hops(("Received: by a",)), 1)
        self.assertEqual(hops(("To: x", "a")), 0)
        self.assertEqual(hops(("To: x", "Received: by a", "y", "Received: by b")), 2)
        self.assertEqual(hops(("Received: by a",) * 50), 50)

    def test_an_empty_first_line_ends_the_head(self):
        self.assertEqual(hops(("",)), 0)
        self.assertEqual(hops(("", "Received: by a")), 0)
        self.assertEqual(hops(("", "Received: by a", "", "Received: by b")), 0)

    def test_the_first_empty_line_ends_the_head(self):
        self.assertEqual(hops(("Received: by a", "")), 1)
        self.assertEqual(hops(("Received: by a", "", "Received: by b", "", "Received: by c")), 1)
        self.assertEqual(hops(("To: x", "", "Received: by b")), 0)
        self.assertEqual(hops(("Received: by a", "x", "Received: by b", "", "", "y")), 2)

    def test_a_line_of_blanks_is_not_empty(self):
        self.assertEqual(hops((" ", "Received: by a")), 1)
        self.assertEqual(hops(("Received: by a", "   ", "Received: by b")), 2)

    def test_lines_that_almost_begin_like_a_trace(self):
        for line in ("Received: by", "Received:by a", "Received:  by a", "Received by a", "Received: ",
                     "Received: from a", "Received: byte", "received: by a", "RECEIVED: BY A",
                     "Received: By a", " Received: by a", "\tReceived: by a", ".Received: by a",
                     "X-Received: by a", "To: Received: by a", "eceived: by a", "Received; by a"):
            self.assertEqual(hops((line,)), 0, line)
            self.assertEqual(hops((line, "Received: by a", line)), 1, line)

    def test_lines_that_begin_like_a_trace_count_whatever_follows(self):
        for line in ("Received: by ", "Received: by  a", "Received: by A", "Received: by a b",
                     "Received: by -", "Received: by a, Received: by b"):
            self.assertEqual(hops((line,)), 1, line)

    def test_equal_traces_count_each(self):
        self.assertEqual(hops((trace("a"), trace("a"), trace("b"))), 3)


class Stuffing(unittest.TestCase):
    """Promise 6."""

    def short_lines(self):
        for length in range(5):
            for signs in itertools.product(". a", repeat=length):
                yield "".join(signs)

    def test_no_lines(self):
        self.assertEqual(stuff(()), ())

    def test_lines_of_dots(self):
        self.assertEqual(stuff((".",)), ("..",))
        self.assertEqual(stuff(("..",)), ("...",))
        self.assertEqual(stuff(("...", "....")), ("....", "....."))

    def test_lines_without_a_dot_at_the_start_stay(self):
        for lines in (("",), ("", "", ""), ("a",), (" .",), ("a.", "b..", "c.d"), (",", "-.", " ")):
            self.assertEqual(stuff(lines), lines)

    def test_each_line_is_stuffed_on_its_own_and_in_order(self):
        self.assertEqual(stuff(("", ".", "x", ".x", "x.", "", "..")),
                         ("", "..", "x", "..x", "x.", "", "..."))

    def test_unstuffing(self):
        for line, plain in (("", ""), ("a", "a"), ("a.", "a."), (" .", " ."), ("..", "."),
                            ("...", ".."), ("..a", ".a"), (".a", "a"), (". ", " "), ("-.a", "-.a")):
            self.assertEqual(unstuff(line), plain)

    def test_unstuffing_a_stuffed_line_gives_the_line(self):
        for line in self.short_lines():
            stuffed, = stuff((line,))
            self.assertEqual(unstuff(stuffed), line)
            self.assertNotEqual(stuffed, ".")

    def test_only_the_dot_is_stuffed(self):
        for sign in SIGNS:
            stuffed = stuff((sign, sign + "x"))
            if sign == ".":
                self.assertEqual(stuffed, ("..", "..x"))
            else:
                self.assertEqual(stuffed, (sign, sign + "x"))
                self.assertEqual(unstuff(sign + "x"), sign + "x")


class Reports(unittest.TestCase):
    """Promise 26."""

    def test_the_four_lines(self):
        self.assertEqual(
            report(("ann.lee", "mail.example"), "unknown user"),
            ("Subject: undelivered", "", "Recipient: ann.lee@mail.example", "Reason: unknown user"))

    def test_the_reason_is_taken_as_it_is(self):
        for reason in ("", " ", "loop", ".", "refused by b.example: 550 unknown", "Reason: x", SIGNS):
            self.assertEqual(report(("a", "b"), reason)[3], "Reason: " + reason)

    def test_a_report_has_no_trace(self):
        self.assertEqual(hops(report(("a", "b"), "loop")), 0)
        self.assertEqual(hops((trace("c"),) + report(("a", "b"), "loop")), 1)


class Lines(unittest.TestCase):
    """Promise 2: what a line may contain, and lines of the program that are longer."""

    def test_lines_of_200_characters(self):
        dots = "." * 200
        self.assertEqual(stuff((dots,)), ("." * 201,))
        self.assertEqual(unstuff("." * 201), dots)
        for at in range(0, len(SIGNS), 10):
            line = (SIGNS[at:] + SIGNS * 3)[:200]
            self.assertEqual(unstuff(stuff((line,))[0]), line)
        self.assertEqual(hops(("Received: by " + "x" * 187, "y" * 200)), 1)

    def test_lines_that_the_program_makes_are_not_cut(self):
        reason = "refused by " + LONGEST_DOMAIN + ": " + "5" * 200
        lines = report((LONGEST_LOCAL, LONGEST_DOMAIN), reason)
        self.assertEqual(lines[2], "Recipient: " + LONGEST_LOCAL + "@" + LONGEST_DOMAIN)
        self.assertEqual(lines[3], "Reason: " + reason)

    def test_lines_are_compared_exactly(self):
        self.assertEqual(hops(("Received: by a", "received: by a", "Received: by a ")), 2)
        self.assertEqual(hops((" ", "Received: by a")), 1)

    def test_lines_that_the_program_makes_have_the_characters_of_a_line(self):
        for line in (trace(LONGEST_DOMAIN),) + report((LONGEST_LOCAL, LONGEST_DOMAIN), "loop"):
            self.assertEqual([sign for sign in line if sign not in SIGNS], [])


if __name__ == "__main__":
    unittest.main()
