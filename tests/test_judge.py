"""The interface section dawkline/judge.py: custody and holders, which show promise 44."""

import inspect
import unittest

from dawkline import judge
from dawkline.judge import custody, holders
from dawkline.world import World
from worlds import everything, make_host, world_of_two

ANN, BOB = ("ann", "a"), ("bob", "b")


class Judge(unittest.TestCase):
    def setUp(self):
        self.world = World([make_host(name) for name in ("b", "a", "c")])

    def add(self, domain, *events):
        for event in events:
            self.world.hosts[domain].add(event)

    def take(self, domain, tag):
        self.add(domain, ("take", "b", tag, None, BOB, (), (), 0))

    def test_names_arguments_and_file(self):
        for found in (custody, holders, judge.custody):
            self.assertEqual(str(inspect.signature(found)), "(world)")
            self.assertEqual(found.__module__, "dawkline.judge")

    def test_empty_queues(self):
        self.assertEqual((custody(self.world), holders(self.world)), ([], {}))
        self.assertEqual((custody(World([])), holders(World([]))), ([], {}))

    def test_items_of_several_hosts(self):
        self.add("a", ("submit", ANN, (BOB, BOB), (), 0), ("doubt", ("a", 2, 0), "b"))
        self.take("b", ("a", 2, 1))
        self.take("c", ("a", 2, 10))
        self.take("a", ("a", 2, 9))
        self.take("b", ("aa", 1, 1))
        self.add("c", ("submit", ANN, (BOB,), (), 0))
        self.take("a", ("b", 10, 1))
        self.take("a", ("b", 9, 1))
        found = custody(self.world)
        self.assertEqual(found, [
            ("a", ("a", 1, 0), None), ("a", ("a", 2, 0), "b"), ("b", ("a", 2, 1), None), ("a", ("a", 2, 9), None),
            ("c", ("a", 2, 10), None), ("b", ("aa", 1, 1), None), ("a", ("b", 9, 1), None),
            ("a", ("b", 10, 1), None), ("c", ("c", 1, 0), None)])
        self.assertIs(type(found), list)
        self.assertEqual({type(row) for row in found}, {tuple})
        found = holders(self.world)
        self.assertIs(type(found), dict)
        self.assertEqual(found, {
            ("a", 1): [("a", 1, 0)], ("a", 2): [("a", 2, 0), ("a", 2, 1), ("a", 2, 9), ("a", 2, 10)],
            ("aa", 1): [("aa", 1, 1)], ("b", 9): [("b", 9, 1)], ("b", 10): [("b", 10, 1)], ("c", 1): [("c", 1, 0)]})
        self.assertEqual({type(tags) for tags in found.values()}, {list})

    def test_the_same_tag_at_two_hosts(self):
        """This cannot happen to hosts that keep the promises; the judge has to show it if it did."""
        for domain in ("c", "a", "b"):
            self.take(domain, ("z", 1, 1))
        self.add("b", ("doubt", ("z", 1, 1), "q"))
        self.assertEqual(custody(self.world), [("a", ("z", 1, 1), None), ("b", ("z", 1, 1), "q"),
                                               ("c", ("z", 1, 1), None)])
        self.assertEqual(holders(self.world), {("z", 1): [("z", 1, 1)] * 3})

    def test_hosts_that_are_down(self):
        self.take("a", ("z", 1, 1))
        self.take("b", ("z", 1, 2))
        self.world.move(("crash", "a", 0, 0))
        self.assertEqual(custody(self.world), [("b", ("z", 1, 2), None)])
        self.assertEqual(holders(self.world), {("z", 1): [("z", 1, 2)]})
        self.world.move(("crash", "b", 0, 0))
        self.assertEqual((custody(self.world), holders(self.world)), ([], {}))
        self.world.move(("start", "a"))
        self.assertEqual(holders(self.world), {("z", 1): [("z", 1, 1)]})

    def test_nothing_is_changed(self):
        world = world_of_two()
        world.move(("submit", "a", ANN, (BOB, BOB), ("x",)))
        before = everything(world)
        rows, found = custody(world), holders(world)
        rows.clear()
        found["a", 1].clear()
        found.clear()
        self.assertEqual(everything(world), before)
        self.assertEqual(len(custody(world)), 2)
        self.assertEqual(len(holders(world)), 2)


if __name__ == "__main__":
    unittest.main()
