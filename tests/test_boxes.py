"""Promises 18, 19 and 20, promise 27 as far as boxes go, and the interface section dawkline/boxes.py."""

import copy
import inspect
import random
import unittest

from dawkline import boxes
from dawkline.boxes import Box, Copy, box_of
from dawkline.errors import NoSuchEntry
from dawkline.record import pack, unpack

LINES = ("To: ann", "", "hello", ".")


def snapshot(box):
    """Return all that a box shows."""
    return (box.number, box.change, list(box.entries), [box.news(mark) for mark in range(box.change + 2)])


class Model:
    """A box as a list of its changes: whatever it shows is worked out from all of them."""

    def __init__(self):
        self.changes = []

    def entries(self):
        shown = {}
        for at, (word, number, what) in enumerate(self.changes):
            if word == "deliver":
                shown[number] = (number, what, (), at + 1)
            elif word == "flags":
                shown[number] = (number, shown[number][1], tuple(sorted(set(what))), at + 1)
            else:
                del shown[number]
        return [shown[number] for number in sorted(shown)]

    def numbers(self):
        return sum(word == "deliver" for word, _, _ in self.changes)

    def news(self, mark):
        entries = tuple(entry for entry in self.entries() if entry[3] > mark)
        gone = tuple(sorted(number for word, number, _ in self.changes[mark:] if word == "expunge"))
        return (len(self.changes), entries, gone)


def random_change(chance, box, model):
    """Perform one change on a box and its model."""
    present = [entry[0] for entry in model.entries()]
    word = chance.choice(["deliver", "flags", "expunge"] if present else ["deliver"])
    if word == "deliver":
        lines = tuple(chance.choice(["a", "", "b c"]) for _ in range(chance.randrange(3)))
        model.changes.append((word, model.numbers() + 1, lines))
        return box.deliver(lines)
    number = chance.choice(present)
    if word == "flags":
        flags = tuple(chance.choice(["seen", "draft", "A", "b"]) for _ in range(chance.randrange(4)))
        model.changes.append((word, number, flags))
        return box.set_flags(number, flags)
    model.changes.append((word, number, None))
    return box.expunge(number)


class Interface(unittest.TestCase):
    def test_names_arguments_and_file(self):
        self.assertEqual(str(inspect.signature(Box)), "()")
        self.assertEqual(str(inspect.signature(Copy)), "()")
        self.assertEqual(str(inspect.signature(box_of)), "(value)")
        for method, arguments in (("deliver", "(self, lines)"), ("set_flags", "(self, number, flags)"),
                                  ("expunge", "(self, number)"), ("news", "(self, mark)"),
                                  ("to_value", "(self)")):
            self.assertEqual(str(inspect.signature(vars(Box)[method])), arguments)
        self.assertEqual(str(inspect.signature(vars(Copy)["update"])), "(self, news)")
        for found in (Box, Copy, box_of, boxes.Box):
            self.assertEqual(found.__module__, "dawkline.boxes")

    def test_attributes_of_new_objects(self):
        box = Box()
        self.assertEqual((box.number, box.change, box.entries), (0, 0, []))
        made = Copy()
        self.assertEqual((made.mark, made.entries), (0, []))
        self.assertIs(type(box.entries), list)
        self.assertIs(type(made.entries), list)

    def test_kinds_of_what_is_returned(self):
        box = Box()
        self.assertEqual(box.deliver(LINES), 1)
        self.assertIsNone(box.set_flags(1, ("seen",)))
        mark, entries, gone = box.news(0)
        self.assertEqual([type(part) for part in (box.news(0), mark, entries, gone)], [tuple, int, tuple, tuple])
        self.assertEqual([type(part) for part in entries[0]], [int, tuple, tuple, int])
        self.assertIsNone(box.expunge(1))
        self.assertIs(type(box.to_value()), tuple)
        self.assertIsNone(Copy().update(box.news(0)))


class Entries(unittest.TestCase):
    """Promise 18."""

    def test_numbers_and_changes_start_at_1(self):
        box = Box()
        self.assertEqual([box.deliver(LINES), box.deliver(()), box.deliver(LINES)], [1, 2, 3])
        self.assertEqual((box.number, box.change), (3, 3))
        self.assertEqual(box.entries, [(1, LINES, (), 1), (2, (), (), 2), (3, LINES, (), 3)])

    def test_flags_are_sorted_without_duplicates(self):
        box = Box()
        box.deliver(LINES)
        for change, (flags, shown) in enumerate([
                (("seen", "draft"), ("draft", "seen")),
                (("b", "a", "b", "a"), ("a", "b")),
                (("a", "B"), ("B", "a")),
                (("x",), ("x",)),
                (("x",), ("x",)),
                ((), ()),
                (("aa", "a", "aaa"), ("a", "aa", "aaa"))], start=2):
            box.set_flags(1, flags)
            self.assertEqual(box.entries, [(1, LINES, shown, change)])
            self.assertEqual((box.number, box.change), (1, change))

    def test_flags_replace_those_of_one_entry_only(self):
        box = Box()
        for _ in range(3):
            box.deliver(LINES)
        box.set_flags(2, ("seen",))
        self.assertEqual(box.entries, [(1, LINES, (), 1), (2, LINES, ("seen",), 4), (3, LINES, (), 3)])
        box.set_flags(1, ("draft",))
        box.set_flags(2, ("draft",))
        self.assertEqual(box.entries, [(1, LINES, ("draft",), 5), (2, LINES, ("draft",), 6), (3, LINES, (), 3)])

    def test_expunging(self):
        box = Box()
        for _ in range(3):
            box.deliver(LINES)
        box.expunge(2)
        self.assertEqual(box.entries, [(1, LINES, (), 1), (3, LINES, (), 3)])
        self.assertEqual((box.number, box.change), (3, 4))

    def test_numbers_and_changes_are_never_used_again(self):
        box = Box()
        for _ in range(3):
            box.deliver(LINES)
        for number in (3, 1, 2):
            box.expunge(number)
        self.assertEqual((box.entries, box.number, box.change), ([], 3, 6))
        self.assertEqual(box.deliver(LINES), 4)
        self.assertEqual(box.entries, [(4, LINES, (), 7)])

    def test_no_such_entry(self):
        box = Box()
        for number in (0, 1, -1):
            with self.assertRaises(NoSuchEntry):
                box.set_flags(number, ("seen",))
            with self.assertRaises(NoSuchEntry):
                box.expunge(number)
        self.assertEqual(snapshot(box), snapshot(Box()))
        for _ in range(3):
            box.deliver(LINES)
        box.set_flags(1, ("seen",))
        box.expunge(2)
        before = snapshot(box)
        for number in (0, 2, 4, 5, -1, -3):
            with self.assertRaises(NoSuchEntry):
                box.set_flags(number, ("draft",))
            with self.assertRaises(NoSuchEntry):
                box.expunge(number)
            self.assertEqual(snapshot(box), before)
        self.assertEqual(box.deliver(LINES), 4)

    def test_arguments_stay_as_they_are(self):
        box = Box()
        box.deliver(LINES)
        flags = ("b", "a", "b")
        box.set_flags(1, flags)
        self.assertEqual(flags, ("b", "a", "b"))
        self.assertEqual(box.entries[0][1], LINES)

    def test_two_boxes_do_not_touch_each_other(self):
        one, other = Box(), Box()
        one.deliver(LINES)
        one.expunge(1)
        self.assertEqual(snapshot(other), snapshot(Box()))


class News(unittest.TestCase):
    """Promise 19."""

    def test_an_empty_box(self):
        for mark in (0, 1, 7):
            self.assertEqual(Box().news(mark), (0, (), ()))

    def test_after_each_mark(self):
        box = Box()
        box.deliver(LINES)
        box.deliver(("second",))
        box.set_flags(1, ("seen",))
        box.deliver(("third",))
        box.expunge(3)
        box.expunge(2)
        first = (1, LINES, ("seen",), 3)
        for mark, entries, gone in [(0, (first,), (2, 3)), (1, (first,), (2, 3)), (2, (first,), (2, 3)),
                                    (3, (), (2, 3)), (4, (), (2, 3)), (5, (), (2,)), (6, (), ()),
                                    (7, (), ()), (1000, (), ())]:
            self.assertEqual(box.news(mark), (6, entries, gone))

    def test_entries_ascend_by_their_numbers_and_not_by_their_changes(self):
        box = Box()
        for _ in range(4):
            box.deliver(LINES)
        for number in (4, 2, 1):
            box.set_flags(number, ("seen",))
        self.assertEqual([entry[0] for entry in box.news(0)[1]], [1, 2, 3, 4])
        self.assertEqual([entry[0] for entry in box.news(4)[1]], [1, 2, 4])
        self.assertEqual([entry[0] for entry in box.news(5)[1]], [1, 2])
        for number in (4, 1, 3):
            box.expunge(number)
        self.assertEqual(box.news(7), (10, (), (1, 3, 4)))
        self.assertEqual(box.news(8), (10, (), (1, 3)))

    def test_an_entry_that_came_and_went_behind_the_mark_is_gone(self):
        box = Box()
        box.deliver(LINES)
        box.deliver(LINES)
        box.expunge(2)
        self.assertEqual(box.news(1), (3, (), (2,)))
        self.assertEqual(box.news(0), (3, ((1, LINES, (), 1),), (2,)))

    def test_news_change_nothing_and_are_not_shared(self):
        box = Box()
        box.deliver(LINES)
        before = box.news(0)
        box.news(0)
        box.set_flags(1, ("seen",))
        box.deliver(LINES)
        self.assertEqual(before, (1, ((1, LINES, (), 1),), ()))

    def test_against_the_model(self):
        for seed in range(40):
            chance = random.Random(seed)
            box, model = Box(), Model()
            for _ in range(25):
                random_change(chance, box, model)
                self.assertEqual(box.entries, model.entries())
                self.assertEqual((box.number, box.change), (model.numbers(), len(model.changes)))
                for mark in range(box.change + 1):
                    self.assertEqual(box.news(mark), model.news(mark))
                self.assertEqual(box.news(box.change + 1), (box.change, (), ()))


class Copies(unittest.TestCase):
    """Promise 20."""

    def test_a_copy_follows_its_own_mark(self):
        box, made = Box(), Copy()
        made.update(box.news(made.mark))
        self.assertEqual((made.mark, made.entries), (0, []))
        for change in (lambda: box.deliver(LINES), lambda: box.deliver(()), lambda: box.set_flags(1, ("x",)),
                       lambda: box.expunge(2), lambda: box.deliver(LINES), lambda: box.expunge(1),
                       lambda: box.expunge(3)):
            change()
            made.update(box.news(made.mark))
            self.assertEqual((made.mark, made.entries), (box.change, box.entries))
            self.assertIs(type(made.entries), list)

    def test_the_same_news_twice(self):
        box, made = Box(), Copy()
        for _ in range(3):
            box.deliver(LINES)
        made.update(box.news(0))
        box.set_flags(3, ("x",))
        box.expunge(1)
        news = box.news(made.mark)
        for _ in range(2):
            made.update(news)
            self.assertEqual((made.mark, made.entries), (5, box.entries))

    def test_news_after_an_older_mark(self):
        box, made = Box(), Copy()
        for number in (1, 2, 3, 4):
            box.deliver(LINES)
            box.set_flags(number, ("x",))
        box.expunge(2)
        box.expunge(4)
        made.update(box.news(0))
        for mark in range(box.change + 1):
            made.update(box.news(mark))
            self.assertEqual((made.mark, made.entries), (box.change, box.entries))

    def test_entries_are_ascending_whatever_order_they_came_in(self):
        box, made = Box(), Copy()
        for _ in range(3):
            box.deliver(LINES)
        made.update((3, (box.entries[2],), ()))
        made.update((3, (box.entries[0], box.entries[1]), ()))
        self.assertEqual(made.entries, box.entries)

    def test_the_mark_is_taken_over_as_it_is(self):
        made = Copy()
        made.update((7, (), ()))
        self.assertEqual((made.mark, made.entries), (7, []))
        made.update((2, ((1, LINES, (), 2),), (4,)))
        self.assertEqual((made.mark, made.entries), (2, [(1, LINES, (), 2)]))

    def test_two_copies_do_not_touch_each_other(self):
        box, one, other = Box(), Copy(), Copy()
        box.deliver(LINES)
        news = box.news(0)
        one.update(news)
        other.update(news)
        box.expunge(1)
        one.update(box.news(one.mark))
        self.assertEqual((one.mark, one.entries), (2, []))
        self.assertEqual((other.mark, other.entries), (1, [(1, LINES, (), 1)]))
        self.assertIsNot(one.entries, other.entries)

    def test_the_news_are_not_changed_and_not_shared(self):
        box, made = Box(), Copy()
        box.deliver(LINES)
        news = box.news(0)
        kept = copy.deepcopy(news)
        made.update(news)
        box.set_flags(1, ("x",))
        made.update(box.news(made.mark))
        self.assertEqual(news, kept)
        made.entries.clear()
        self.assertEqual(news, kept)
        self.assertEqual(len(box.entries), 1)

    def test_against_the_box(self):
        for seed in range(40):
            chance = random.Random(1000 + seed)
            box, model = Box(), Model()
            copies = [Copy() for _ in range(3)]
            for _ in range(30):
                random_change(chance, box, model)
                made = chance.choice(copies)
                made.update(box.news(made.mark))
                self.assertEqual((made.mark, made.entries), (box.change, box.entries))
            for made in copies:
                made.update(box.news(made.mark))
                self.assertEqual(made.entries, box.entries)


class Values(unittest.TestCase):
    """Promise 27, the part about boxes."""

    def test_a_box_that_is_made_again_goes_on_in_the_same_way(self):
        for seed in range(30):
            chance = random.Random(2000 + seed)
            box, model = Box(), Model()
            for _ in range(chance.randrange(20)):
                random_change(chance, box, model)
            value = box.to_value()
            kept = copy.deepcopy(value)
            made = box_of(value)
            self.assertIs(type(made), Box)
            self.assertIs(type(made.entries), list)
            self.assertEqual(snapshot(made), snapshot(box))
            before = snapshot(box)
            other = copy.deepcopy(model)
            for _ in range(10):
                random_change(chance, made, other)
                self.assertEqual(made.entries, other.entries())
                self.assertEqual([made.news(mark) for mark in range(made.change + 1)],
                                 [other.news(mark) for mark in range(made.change + 1)])
            self.assertEqual(snapshot(box), before)
            self.assertEqual(value, kept)
            random_change(chance, box, model)
            self.assertEqual(snapshot(box_of(value)), before)

    def test_the_value_has_a_record(self):
        box = Box()
        for _ in range(3):
            box.deliver(LINES)
        box.set_flags(2, ("seen", "draft"))
        box.expunge(1)
        value = box.to_value()
        self.assertEqual(unpack(pack(value))[0], value)

    def test_equal_boxes_have_equal_values(self):
        self.assertEqual(Box().to_value(), Box().to_value())
        one, other = Box(), Box()
        for box in (one, other):
            box.deliver(LINES)
        self.assertEqual(one.to_value(), other.to_value())
        one.set_flags(1, ())
        self.assertNotEqual(one.to_value(), other.to_value())


if __name__ == "__main__":
    unittest.main()
