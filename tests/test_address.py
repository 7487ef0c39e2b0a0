"""Promises 3 and 4, and the interface section dawkline/address.py."""

import inspect
import unittest

from dawkline import address
from dawkline.address import format_address, format_path, is_domain, parse_address, parse_path
from dawkline.errors import InvalidAddress, MailError

LETTERS = "abcdefghijklmnopqrstuvwxyz"
CAPITALS = "ABCDEFGHIJKLMNOPQRSTUVWXYZ"
DIGITS = "0123456789"
LOCAL_SIGNS = LETTERS + DIGITS + ".-_+"
LABEL_SIGNS = LETTERS + DIGITS + "-"
# Signs beyond ASCII that Python counts as letters or digits, or turns into ASCII ones.
FOREIGN = "\u00e9\u00c9\u0130\u0131\u017f\u212a\uff11\u0661\u00b2\uff41\u00df"
SIGNS = "".join([chr(code) for code in range(128)]) + FOREIGN
BLANKS = " \t\n\r\v\f\x00\u00a0\u2028"

L20 = "abcdefghij0123456789"
DOMAINS_OF_80 = (
    ".".join([L20, L20, L20, "a" * 17]),
    ".".join([L20, L20, "b" * 19, "a" * 18]),
    ".".join(["a"] * 39 + ["bc"]),
)
DOMAINS_OF_81 = (
    ".".join([L20, L20, L20, "a" * 18]),
    ".".join([L20, L20, "b" * 19, "a" * 19]),
    ".".join(["a"] * 41),
    ".".join([L20, L20, L20, "a", "b" * 16]),
)
GOOD_DOMAINS = (
    "a", "7", "mail", "mail.example", "a.b.c.d", "x-y", "a-b.c-d.example", "a--b", "a---b.c",
    "0.1.2", "1-2", "xn--a", L20, L20 + "." + L20, "a." + L20, L20 + ".a",
) + DOMAINS_OF_80
BAD_DOMAINS = (
    "", ".", "..", "...", ".a", "a.", ".a.b", "a.b.", "a..b", "a...b",
    "-", "--", "-a", "a-", "-a-", "a.-b", "a.b-", "a-.b", "-a.b", "a.-.b", "a.-b.c", "a.b-.c",
    "a_b", "a+b", "a b", " a", "a ", "a\n", "\na", "a@b", "<a>", "a>", "a,b", "a:b",
    L20 + "x", L20 + "x.a", "a." + L20 + "x", "a." + L20 + "x.b",
    "a" * 80, "a" * 81, "a" * 200, "a." * 40, "." + "a" * 20,
) + DOMAINS_OF_81
GOOD_LOCALS = (
    "a", "z", "0", "9", "-", "_", "+", "--", "__", "++", "-a-", "_a_", "+a+", "a.b", "a.b.c.d",
    "ann.lee", "1.2", "-.-", "_._", "+.+", "x" * 40, "x." * 19 + "xy",
)
BAD_LOCALS = (
    "", ".", "..", ".a", "a.", ".a.", "a..b", "..a", "a..", "a...b", "a.b..c", "x" * 41, "x" * 200,
    "x." * 20 + "x", "." + "x" * 39, "x" * 39 + ".", "a b", " a", "a ", "a\n", "<a", "a>", "a,b",
)
BAD_ADDRESSES = (
    "", " ", "a", "mail.example", "@", "@@", "a@", "@b", "a@@b", "a@b@c", "a@b@", "@a@b", "a@@",
    "a@b.", "a@.b", "a@b..c", ".a@b", "a.@b", "a..b@x", " a@b", "a@b ", "a @b", "a@ b", "a b@c",
    "a@b c", "\ta@b", "a@b\n", "a@b\r\n", "<>", "<a@b>", "<a@b", "a@b>", "a(b)@c", '"a"@b',
    "a/b@c", "a=b@c", "a'b@c", "a%b@c", "a@[1.2.3.4]", "a@b:25", "a@b_c", "a@b+c",
)
BAD_PATHS = (
    "", " ", "<", ">", "><", "< >", " <>", "<> ", "<<>", "<>>", "<<>>", "<><>", "a", "a@b", "<a@b",
    "a@b>", "<<a@b>>", "<<a@b>", "<a@b>>", "<a<@b>", "<a@>b>", "<a@b><", "><a@b>", "<a@b>c",
    "a<b@c>", "<a@b><c@d>", "<a@b,c@d>", "<a>@b", "a@<b>", ">a@b<", "<a@b<", ">a@b>", "(a@b)",
    "[a@b]", " <a@b>", "<a@b> ", "< a@b>", "<a@b >", "<a @b>", "<a@ b>", "<a@b>\n", "<\n>",
    "<a>", "<@>", "<@b>", "<a@>", "<a@@b>", "<a@b@c>", "<None>", "None",
)


class Checks(unittest.TestCase):
    def assert_refused(self, parse, text):
        with self.assertRaises(InvalidAddress, msg=repr(text)) as caught:
            parse(text)
        self.assertIsInstance(caught.exception, MailError)
        self.assertIsInstance(caught.exception, ValueError)

    def accepts(self, parse, text):
        try:
            parse(text)
        except InvalidAddress:
            return False
        return True


class Interface(unittest.TestCase):
    def test_names_arguments_and_file(self):
        expected = {"parse_address": ["text"], "format_address": ["address"],
                    "parse_path": ["text"], "format_path": ["address"], "is_domain": ["text"]}
        for name, arguments in expected.items():
            found = getattr(address, name)
            self.assertEqual(list(inspect.signature(found).parameters), arguments)
            self.assertEqual(found.__module__, "dawkline.address")

    def test_examples_of_the_document(self):
        self.assertEqual(parse_address("Ann.Lee@Mail.example"), ("ann.lee", "mail.example"))
        with self.assertRaises(InvalidAddress):
            parse_path("<a..b@x>")

    def test_kinds_of_values(self):
        for found in (parse_address("A@B"), parse_path("<A@B>")):
            self.assertIs(type(found), tuple)
            self.assertEqual([type(part) for part in found], [str, str])
        self.assertIs(type(format_address(("a", "b"))), str)
        self.assertIs(type(format_path(("a", "b"))), str)
        self.assertIs(type(format_path(None)), str)


class LocalParts(Checks):
    """Promise 3."""

    def test_good_ones(self):
        for local in GOOD_LOCALS:
            self.assertEqual(parse_address(local + "@x"), (local, "x"))
            self.assertEqual(parse_path("<" + local + "@x>"), (local, "x"))

    def test_bad_ones(self):
        for local in BAD_LOCALS:
            self.assert_refused(parse_address, local + "@x")
            self.assert_refused(parse_path, "<" + local + "@x>")

    def test_lengths_from_1_to_40(self):
        for length in range(0, 60):
            for sign in "a0-_+":
                text = sign * length + "@mail.example"
                self.assertEqual(self.accepts(parse_address, text), 1 <= length <= 40, text)

    def test_each_sign_alone_and_at_each_place(self):
        for sign in SIGNS:
            alone = sign in LOCAL_SIGNS + CAPITALS and sign != "."
            inside = sign in LOCAL_SIGNS + CAPITALS
            self.assertEqual(self.accepts(parse_address, sign + "@x"), alone, repr(sign))
            self.assertEqual(self.accepts(parse_address, sign + "a@x"), alone, repr(sign))
            self.assertEqual(self.accepts(parse_address, "a" + sign + "@x"), alone, repr(sign))
            self.assertEqual(self.accepts(parse_address, "a" + sign + "b@x"), inside, repr(sign))


class Domains(Checks):
    """Promise 3."""

    def test_good_ones(self):
        for domain in GOOD_DOMAINS:
            self.assertIs(is_domain(domain), True, domain)
            self.assertEqual(parse_address("a@" + domain), ("a", domain))
            self.assertEqual(parse_path("<a@" + domain + ">"), ("a", domain))

    def test_bad_ones(self):
        for domain in BAD_DOMAINS:
            self.assertIs(is_domain(domain), False, repr(domain))
            self.assert_refused(parse_address, "a@" + domain)
            self.assert_refused(parse_path, "<a@" + domain + ">")

    def test_the_lists_above_have_the_lengths_that_they_name(self):
        self.assertEqual({len(domain) for domain in DOMAINS_OF_80}, {80})
        self.assertEqual({len(domain) for domain in DOMAINS_OF_81}, {81})

    def test_lengths_of_labels_from_1_to_20(self):
        for length in range(0, 30):
            for sign in "a0":
                for before, behind in (("", ""), ("x.", ""), ("", ".x"), ("x.", ".y")):
                    text = before + sign * length + behind
                    self.assertIs(is_domain(text), 1 <= length <= 20, text)

    def test_lengths_of_domains_of_short_labels(self):
        for length in range(1, 100):
            text = ("a." * 50)[:length]
            self.assertIs(is_domain(text), length <= 80 and not text.endswith("."), text)

    def test_a_long_domain_does_not_count_towards_the_local_part(self):
        for domain in DOMAINS_OF_80:
            self.assertEqual(parse_address("x" * 40 + "@" + domain), ("x" * 40, domain))

    def test_each_sign_alone_and_at_each_place(self):
        for sign in SIGNS:
            edge = sign in LETTERS + DIGITS
            self.assertIs(is_domain(sign), edge, repr(sign))
            self.assertIs(is_domain(sign + "a"), edge, repr(sign))
            self.assertIs(is_domain("a" + sign), edge, repr(sign))
            self.assertIs(is_domain("x." + sign + "a.y"), edge, repr(sign))
            self.assertIs(is_domain("x.a" + sign + ".y"), edge, repr(sign))
            inside = sign in LABEL_SIGNS + "."
            self.assertIs(is_domain("a" + sign + "b"), inside, repr(sign))
            self.assertIs(is_domain("x.a" + sign + "b.y"), inside, repr(sign))

    def test_upper_case_is_not_a_domain_but_is_parsed(self):
        for letter in CAPITALS:
            for text in (letter, "a" + letter, letter + "a", "x." + letter + ".y"):
                self.assertIs(is_domain(text), False, text)
                self.assertEqual(parse_address("a@" + text), ("a", text.lower()))
        self.assertIs(is_domain("Mail.example"), False)
        self.assertIs(is_domain("mail.EXAMPLE"), False)


class Writing(Checks):
    """Promise 4."""

    def test_addresses(self):
        self.assertEqual(format_address(("ann.lee", "mail.example")), "ann.lee@mail.example")
        self.assertEqual(format_address(("-_+", "a-b")), "-_+@a-b")

    def test_paths(self):
        self.assertEqual(format_path(("ann.lee", "mail.example")), "<ann.lee@mail.example>")
        self.assertEqual(format_path(None), "<>")

    def test_writing_what_was_parsed(self):
        for local in GOOD_LOCALS:
            for domain in GOOD_DOMAINS:
                low = local + "@" + domain
                for text in (low, low.upper(), low.title(), low.swapcase()):
                    self.assertEqual(format_address(parse_address(text)), low)
                    self.assertEqual(format_path(parse_path("<" + text + ">")), "<" + low + ">")
        self.assertEqual(format_path(parse_path("<>")), "<>")

    def test_parsing_what_was_written(self):
        for local in GOOD_LOCALS:
            for domain in GOOD_DOMAINS:
                found = (local, domain)
                self.assertEqual(parse_address(format_address(found)), found)
                self.assertEqual(parse_path(format_path(found)), found)
        self.assertIsNone(parse_path(format_path(None)))


class Parsing(Checks):
    """Promise 4."""

    def test_each_capital_becomes_its_small_letter(self):
        for capital, letter in zip(CAPITALS, LETTERS):
            text = "x" + capital + "@y" + capital
            self.assertEqual(parse_address(text), ("x" + letter, "y" + letter))
            self.assertEqual(parse_path("<" + text + ">"), ("x" + letter, "y" + letter))

    def test_only_the_letters_a_to_z_are_converted(self):
        for sign in FOREIGN:
            for text in (sign + "@x", "a" + sign + "@x", "a@" + sign, "a@x" + sign + ".y"):
                self.assert_refused(parse_address, text)
                self.assert_refused(parse_path, "<" + text + ">")

    def test_bad_addresses(self):
        for text in BAD_ADDRESSES:
            self.assert_refused(parse_address, text)

    def test_bad_paths(self):
        for text in BAD_PATHS:
            self.assert_refused(parse_path, text)

    def test_a_bad_address_is_no_path(self):
        for text in BAD_ADDRESSES:
            if text != "":
                self.assert_refused(parse_path, "<" + text + ">")

    def test_blanks_at_each_place(self):
        for blank in BLANKS:
            for at in range(len("a.b@c.d") + 1):
                self.assert_refused(parse_address, "a.b@c.d"[:at] + blank + "a.b@c.d"[at:])
            for at in range(len("<a@b>") + 1):
                self.assert_refused(parse_path, "<a@b>"[:at] + blank + "<a@b>"[at:])
            for at in range(len("<>") + 1):
                self.assert_refused(parse_path, "<>"[:at] + blank + "<>"[at:])

    def test_the_empty_sender(self):
        self.assertIsNone(parse_path("<>"))
        self.assert_refused(parse_address, "<>")
        self.assert_refused(parse_address, "")


if __name__ == "__main__":
    unittest.main()
