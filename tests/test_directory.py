"""Promises 16 and 17, and the interface section dawkline/directory.py."""

import inspect
import itertools
import unittest

from dawkline import directory as directory_module
from dawkline.directory import Directory, route

ANN = ("ann", "mail.example")
BOB = ("bob", "other.example")
USERS = ("ann", "bob", "c.d")
LISTS = (("all", ANN, (ANN, BOB)), ("none", None, ()), ("own", ("own", "mail.example"), (BOB,)))


class Interface(unittest.TestCase):
    def test_names_arguments_and_file(self):
        self.assertEqual(str(inspect.signature(Directory)), "(domain, users, lists)")
        self.assertIn("lookup", vars(Directory))
        self.assertEqual(str(inspect.signature(Directory.lookup)), "(self, address)")
        self.assertEqual(str(inspect.signature(route)), "(routes, domain)")
        for found in (Directory, route, directory_module.Directory):
            self.assertEqual(found.__module__, "dawkline.directory")

    def test_attributes(self):
        made = Directory("mail.example", USERS, LISTS)
        self.assertEqual((made.domain, made.users, made.lists), ("mail.example", USERS, LISTS))
        made = Directory(lists=(), users=(), domain="x")
        self.assertEqual((made.domain, made.users, made.lists), ("x", (), ()))


class Lookups(unittest.TestCase):
    """Promise 16."""

    def assert_found(self, local, domain, expected, made=None):
        made = made or Directory("mail.example", USERS, LISTS)
        found = made.lookup((local, domain))
        self.assertIs(type(found), tuple)
        self.assertEqual(found, expected)

    def test_users(self):
        for user in USERS:
            self.assert_found(user, "mail.example", ("box", user))

    def test_lists(self):
        for name, owner, members in LISTS:
            self.assert_found(name, "mail.example", ("list", owner, members))

    def test_a_list_without_an_owner_and_without_members(self):
        self.assert_found("none", "mail.example", ("list", None, ()))

    def test_unknown_names(self):
        for local in ("x", "an", "annn", "c", "d", "c.", "al", "alll", "none.", "mail.example", "box"):
            self.assert_found(local, "mail.example", ("unknown",))

    def test_the_members_and_owners_of_a_list_are_no_names(self):
        made = Directory("mail.example", (), (("all", ANN, (BOB, ("eve", "mail.example"))),))
        for local in ("ann", "bob", "eve"):
            self.assert_found(local, "mail.example", ("unknown",), made)

    def test_other_domains(self):
        for domain in ("other.example", "example", "x.mail.example", "mail.exampl", "mail",
                       "mail.example.x", "xmail.example", "mail-example", "a"):
            for local in USERS + ("all", "none", "own", "x"):
                self.assert_found(local, domain, ("remote",))

    def test_an_empty_directory(self):
        made = Directory("a", (), ())
        self.assert_found("a", "a", ("unknown",), made)
        self.assert_found("a", "b", ("remote",), made)

    def test_names_that_are_spelled_like_the_words_of_results(self):
        made = Directory("box", ("box", "unknown"), (("list", None, ()), ("remote", BOB, (ANN,))))
        self.assert_found("box", "box", ("box", "box"), made)
        self.assert_found("unknown", "box", ("box", "unknown"), made)
        self.assert_found("list", "box", ("list", None, ()), made)
        self.assert_found("remote", "box", ("list", BOB, (ANN,)), made)
        self.assert_found("other", "box", ("unknown",), made)
        self.assert_found("box", "other", ("remote",), made)

    def test_the_attributes_stay(self):
        made = Directory("mail.example", USERS, LISTS)
        for address in (ANN, BOB, ("all", "mail.example"), ("x", "mail.example")):
            made.lookup(address)
        self.assertEqual((made.domain, made.users, made.lists), ("mail.example", USERS, LISTS))


class Routes(unittest.TestCase):
    """Promise 17."""

    def assert_route(self, routes, domain, expected):
        found = route(routes, domain)
        self.assertIs(type(found), tuple)
        self.assertEqual(found, expected, (routes, domain))

    def test_no_routes(self):
        for domain in ("a", "a.b", "mail.example"):
            self.assert_route((), domain, ())

    def test_the_empty_suffix_matches_each_domain(self):
        for domain in ("a", "a.b", "mail.example"):
            self.assert_route((("", ("x", "y")),), domain, ("x", "y"))

    def test_a_suffix_that_equals_the_domain(self):
        for domain in ("a", "a.b", "mail.example"):
            self.assert_route(((domain, ("x",)),), domain, ("x",))

    def test_a_suffix_behind_a_dot(self):
        self.assert_route((("example", ("x",)),), "mail.example", ("x",))
        self.assert_route((("example", ("x",)),), "a.b.example", ("x",))
        self.assert_route((("b.example", ("x",)),), "a.b.example", ("x",))
        self.assert_route((("a", ("x",)),), "a.a.a", ("x",))

    def test_a_suffix_without_a_dot_before_it(self):
        for suffix, domain in (("example", "myexample"), ("l.example", "mail.example"), ("b", "ab"),
                               ("example", "mail-example"), ("b.c", "ab.c"), ("0", "10")):
            self.assert_route(((suffix, ("x",)),), domain, ())
            self.assert_route((("", ("y",)), (suffix, ("x",))), domain, ("y",))

    def test_a_suffix_that_is_not_at_the_end(self):
        for suffix, domain in (("mail", "mail.example"), ("b", "a.b.c"), ("a.b", "a.b.c"),
                               ("mail.example", "example"), ("x.mail.example", "mail.example"),
                               ("mail.example.x", "mail.example"), ("other", "mail.example")):
            self.assert_route(((suffix, ("x",)),), domain, ())

    def test_the_longest_suffix_counts_wherever_it_stands(self):
        pairs = (("", ("w",)), ("c", ("x",)), ("b.c", ("y",)), ("a.b.c", ("z",)), ("q.a.b.c", ("v",)),
                 ("bb.c", ("u",)), ("longer.than.all", ("t",)))
        for routes in itertools.permutations(pairs):
            for domain, host in (("a.b.c", "z"), ("d.a.b.c", "z"), ("b.c", "y"), ("x.b.c", "y"),
                                 ("c", "x"), ("d.c", "x"), ("bc", "w"), ("d", "w"), ("a.bb.c", "u")):
                found = route(routes, domain)
                if found != (host,):
                    self.fail((routes, domain, found))

    def test_the_first_of_the_same_suffixes_counts(self):
        for suffix, domain in (("", "a.b"), ("b", "a.b"), ("a.b", "a.b")):
            self.assert_route(((suffix, ("x",)), (suffix, ("y",))), domain, ("x",))
            self.assert_route(((suffix, ()), (suffix, ("y",))), domain, ())
            self.assert_route((("c", ("z",)), (suffix, ("x",)), ("c", ("z",)), (suffix, ("y",)),
                               (suffix, ("x", "y"))), domain, ("x",))
        self.assert_route((("", ("w",)), ("b", ("x",)), ("", ("v",)), ("b", ("y",))), "a.b", ("x",))

    def test_an_empty_tuple_of_hosts(self):
        self.assert_route((("b", ()),), "a.b", ())
        self.assert_route((("", ("x",)), ("b", ())), "a.b", ())
        self.assert_route((("b", ()), ("", ("x",))), "a.b", ())
        self.assert_route((("b", ("x",)), ("", ())), "a.b", ("x",))

    def test_the_order_of_the_hosts(self):
        for hosts in itertools.permutations(("x", "y", "z", "a.b")):
            self.assert_route((("", hosts),), "a.b", hosts)

    def test_the_arguments_stay(self):
        """Promise 1."""
        routes = (("", ("x",)), ("b", ("y", "z")))
        route(routes, "a.b")
        self.assertEqual(routes, (("", ("x",)), ("b", ("y", "z"))))


if __name__ == "__main__":
    unittest.main()
