"""Promises 13, 14 and 15, and the interface section dawkline/journal.py."""

import copy
import inspect
import itertools
import unittest

from dawkline import journal as journal_module
from dawkline.disk import Disk
from dawkline.errors import MailError, PowerCut
from dawkline.journal import Journal, read_file
from dawkline.record import pack, unpack

# Values and events that do not fit in one byte, or that look like something else.
VALUES = (None, True, False, 0, 1, -1, 300, "", "begin", (), ("a", 300, -1, None), ((), ((),)),
          ("begin", 9, None), (("begin", 9, None),))


def nested(depth):
    """Return a tuple of this depth."""
    value = ()
    for _ in range(depth - 1):
        value = (value,)
    return value


def begin(generation, value):
    return pack(("begin", generation, value))


def packed(events):
    return [byte for event in events for byte in pack(event)]


def filled(first, second):
    """Return a disk with these durable contents."""
    disk = Disk()
    for file, content in ((0, first), (1, second)):
        disk.append(file, content)
        disk.sync(file)
    return disk


class LoggedDisk(Disk):
    """A disk that keeps the steps that it is asked for, each byte by itself."""

    def __init__(self):
        super().__init__()
        self.log = []

    def append(self, file, data):
        self.log.extend([("byte", file, byte) for byte in data])
        super().append(file, data)

    def clear(self, file):
        self.log.append(("clear", file))
        super().clear(file)

    def sync(self, file):
        self.log.append(("sync", file))
        super().sync(file)


class Checks(unittest.TestCase):
    def assert_loaded(self, found, generation, value, events):
        """What a journal has loaded; True is not 1 here."""
        self.assertEqual(repr((found.generation, found.value, found.events)),
                         repr((generation, value, events)))

    def assert_disk_holds(self, disk, generation, value, events):
        self.assert_loaded(Journal(disk), generation, value, events)

    def assert_read(self, content, expected):
        kept = list(content)
        found = read_file(content)
        self.assertEqual(repr(found), repr(expected), content)
        self.assertEqual(content, kept)


class Interface(unittest.TestCase):
    def test_names_arguments_and_file(self):
        self.assertEqual(str(inspect.signature(journal_module.read_file)), "(content)")
        self.assertEqual(str(inspect.signature(journal_module.Journal)), "(disk)")
        for found in (journal_module.read_file, journal_module.Journal):
            self.assertEqual(found.__module__, "dawkline.journal")
        for name, arguments in (("checkpoint", "(self, value)"), ("add", "(self, event)")):
            self.assertIn(name, vars(Journal))
            self.assertEqual(str(inspect.signature(getattr(Journal, name))), arguments)

    def test_kinds_of_values(self):
        disk = Disk()
        found = Journal(disk)
        self.assertEqual((found.generation, found.value, found.events), (0, None, []))
        self.assertIs(type(found.generation), int)
        self.assertIs(type(found.events), list)
        self.assertIsNone(found.checkpoint("a"))
        self.assertIsNone(found.add("b"))
        read = read_file(disk.content(0))
        self.assertEqual([type(part) for part in read], [int, str, list])
        self.assertIs(type(read), tuple)


class UsableFiles(Checks):
    """Promise 13."""

    def test_a_begin_record_alone(self):
        for value in VALUES:
            for generation in (1, 2, 127, 128, 10 ** 30):
                self.assert_read(begin(generation, value), (generation, value, []))

    def test_a_begin_record_and_events(self):
        for value in VALUES:
            self.assert_read(begin(3, value) + packed(VALUES), (3, value, list(VALUES)))
            for event in VALUES:
                self.assert_read(begin(1, value) + pack(event), (1, value, [event]))

    def test_a_content_without_a_record(self):
        for content in ([], [7], [255], [128], [37, 37], [7] + begin(1, None)):
            self.assert_read(content, None)

    def test_a_record_of_another_value(self):
        for value in (None, True, 1, -1, "begin", "", (), ("begin",), ((("begin", 1, None)),),
                      (("begin", 1, None),), nested(20)):
            if value != ("begin", 1, None):
                self.assert_read(pack(value), None)
                self.assert_read(pack(value) + begin(1, None), None)

    def test_generations_that_are_no_integers_from_1(self):
        for generation in (0, -1, -2, True, False, None, "", "1", (), (1,)):
            self.assert_read(begin(generation, "a"), None)
            self.assert_read(begin(generation, "a") + pack("event"), None)

    def test_too_few_and_too_many_items(self):
        for value in (("begin",), ("begin", 1), ("begin", 1, None, None), ("begin", 1, "a", "b", "c"),
                      (1, "a"), ("begin", 1, "a", ())):
            self.assert_read(pack(value), None)
            self.assert_read(pack(value) + packed((1, 2, 3)), None)

    def test_another_word(self):
        for word in ("", "Begin", "BEGIN", "begi", "beginn", " begin", "begin ", "end", None, True, 1,
                     ("begin",)):
            self.assert_read(pack((word, 1, "a")), None)

    def test_items_in_another_order(self):
        for items in itertools.permutations(("begin", 1, "a")):
            self.assert_read(pack(items), (1, "a", []) if items[:2] == ("begin", 1) else None)

    def test_a_begin_record_that_is_cut(self):
        for value in VALUES:
            content = begin(300, value)
            for length in range(len(content)):
                self.assert_read(content[:length], None)

    def read_whole(self, content):
        """Return what read_file should give, reading the begin record as one value."""
        try:
            value, place = unpack(content)
        except MailError:
            return None
        if type(value) is not tuple or len(value) != 3 or value[0] != "begin":
            return None
        if type(value[1]) is not int or value[1] < 1:
            return None
        events = []
        while place < len(content):
            try:
                event, place = unpack(content, place)
            except MailError:
                break
            events.append(event)
        return (value[1], value[2], events)

    def test_each_byte_at_each_place_of_a_begin_record(self):
        content = begin(300, ("ab", -1, (True,)))
        for place in range(len(content)):
            for byte in range(256):
                for behind in ([], pack("event")):
                    changed = content[:place] + [byte] + content[place + 1:] + behind
                    self.assert_read(changed, self.read_whole(changed))

    def test_events_that_are_cut_at_each_place(self):
        events = [event for event in VALUES if event is not None]
        head = begin(2, "value")
        for many in range(len(events)):
            last = pack(events[many])
            for length in range(len(last)):
                content = head + packed(events[:many]) + last[:length]
                self.assert_read(content, (2, "value", events[:many]))

    def test_events_that_are_broken_at_each_place(self):
        events = ["ab", ("a", 300, -1, None), (1, ("b",)), 128]
        head = begin(2, "value")
        for many in range(len(events)):
            for behind in ([], packed(events[many + 1:])):
                last = pack(events[many])
                for place in range(len(last)):
                    for byte in (7, 37, 255):
                        broken = last[:place] + [byte] + last[place + 1:]
                        try:
                            expected = unpack(broken + behind)[0]
                        except ValueError:
                            content = head + packed(events[:many]) + broken + behind
                            self.assert_read(content, (2, "value", events[:many]))
                        else:
                            self.assertNotEqual(expected, events[many])

    def test_nothing_is_read_behind_a_fault(self):
        for fault in ([7], [255], [3, 128, 0], [5, 1, 37], [6, 1, 9], [5, 1, 31], [6, 1] * 20 + [6]):
            self.assert_read(begin(1, 0) + pack("a") + fault + packed(("b", "c")), (1, 0, ["a"]))
            self.assert_read(begin(1, 0) + fault + begin(2, 0), (1, 0, []))

    def test_events_that_look_like_a_begin_record(self):
        events = [("begin", 9, "other"), ("begin", 10, ()), "begin", ("begin", 0, None)]
        self.assert_read(begin(1, "a") + packed(events), (1, "a", events))

    def test_values_that_are_nested_as_deeply_as_values_may_be(self):
        self.assert_read(begin(1, nested(19)), (1, nested(19), []))
        self.assert_read(begin(1, nested(20)), (1, nested(20), []))
        self.assert_read(begin(1, nested(20)) + pack(nested(20)) + pack(1),
                         (1, nested(20), [nested(20), 1]))
        self.assert_read(begin(1, nested(21)), None)
        self.assert_read(begin(1, 0) + pack(nested(21)) + pack(1), (1, 0, []))

    def test_the_events_are_a_new_list(self):
        """Promise 1: the content stays, too."""
        content = begin(1, 0) + packed(("a", "b"))
        read_file(content)[2].append("c")
        self.assert_read(content, (1, 0, ["a", "b"]))


class Loading(Checks):
    """Promise 14: which file is loaded."""

    def test_a_new_disk(self):
        disk = Disk()
        self.assert_disk_holds(disk, 0, None, [])
        self.assertEqual([disk.content(0), disk.content(1), disk.pending(0), disk.pending(1)],
                         [[], [], 0, 0])

    def test_no_usable_file(self):
        for content in ([0], [255], pack(("begin", 0, "a")), begin(1, "a")[:-1]):
            self.assert_disk_holds(filled(content, []), 0, None, [])
            self.assert_disk_holds(filled(content, content), 0, None, [])

    def test_one_usable_file(self):
        content = begin(5, "a") + packed((1, 2))
        for other in ([], [255], begin(9, "b")[:-1], begin(0, "b"), pack(None) + begin(9, "b")):
            self.assert_disk_holds(filled(content, other), 5, "a", [1, 2])
            self.assert_disk_holds(filled(other, content), 5, "a", [1, 2])

    def test_two_usable_files(self):
        for less, greater in ((1, 2), (127, 128), (9, 10), (2, 300), (2 ** 64, 2 ** 64 + 1)):
            older = begin(less, "a") + packed((1, 2, 3))
            newer = begin(greater, "b") + packed((4,))
            self.assert_disk_holds(filled(older, newer), greater, "b", [4])
            self.assert_disk_holds(filled(newer, older), greater, "b", [4])

    def test_loading_reads_pending_steps_too(self):
        disk = filled(begin(1, "a"), [])
        disk.append(0, pack("x"))
        self.assert_disk_holds(disk, 1, "a", ["x"])
        disk.append(1, begin(2, "b"))
        self.assert_disk_holds(disk, 2, "b", [])

    def test_loading_needs_no_steps_and_changes_nothing(self):
        disk = filled(begin(1, "a"), begin(2, "b") + pack(1))
        disk.limit(0)
        for _ in range(2):
            self.assert_disk_holds(disk, 2, "b", [1])
        self.assertEqual(disk.content(0), begin(1, "a"))

    def test_several_journals_of_one_disk(self):
        disk = Disk()
        first = Journal(disk)
        first.checkpoint("a")
        second = Journal(disk)
        second.add(1)
        third = Journal(disk)
        third.checkpoint("b")
        third.add(2)
        for _ in range(3):
            self.assert_disk_holds(disk, 2, "b", [2])
        self.assert_loaded(first, 0, None, [])
        self.assert_loaded(second, 1, "a", [])
        self.assert_loaded(third, 1, "a", [1])


class WhatWasLoaded(Checks):
    """Promise 14: it does not change later."""

    def test_checkpoints_and_events_do_not_change_it(self):
        disk = filled(begin(4, "a") + packed((1, 2)), [])
        found = Journal(disk)
        for number in range(3):
            found.checkpoint(("value", number))
            self.assert_loaded(found, 4, "a", [1, 2])
            found.add(number)
            self.assert_loaded(found, 4, "a", [1, 2])
        self.assert_disk_holds(disk, 7, ("value", 2), [2])

    def test_an_event_is_not_added_to_the_list(self):
        disk = filled([], begin(4, "a") + packed((1, 2)))
        found = Journal(disk)
        found.add(3)
        self.assert_loaded(found, 4, "a", [1, 2])
        self.assert_disk_holds(disk, 4, "a", [1, 2, 3])

    def test_changes_of_the_lists_that_it_gives(self):
        disk = filled(begin(4, "a") + packed((1, 2)), [])
        found = Journal(disk)
        found.events.append(3)
        found.events.clear()
        given = found.events
        given[0] = "other"
        self.assert_loaded(found, 4, "a", [1, 2])
        found.add(5)
        given.append(6)
        self.assert_loaded(found, 4, "a", [1, 2])
        self.assert_disk_holds(disk, 4, "a", [1, 2, 5])
        empty = Journal(Disk())
        empty.events.append(1)
        self.assert_loaded(empty, 0, None, [])
        self.assert_disk_holds(Disk(), 0, None, [])

    def test_changes_of_the_disk(self):
        disk = filled(begin(4, "a") + packed((1, 2)), [])
        found = Journal(disk)
        disk.clear(0)
        disk.sync(0)
        self.assert_loaded(found, 4, "a", [1, 2])


class Steps(Checks):
    """Promise 14: the steps of a checkpoint and of an event."""

    def checkpoint_steps(self, file, generation, value):
        return [("clear", file)] + [("byte", file, byte) for byte in begin(generation, value)] \
            + [("sync", file)]

    def event_steps(self, file, event):
        return [("byte", file, byte) for byte in pack(event)] + [("sync", file)]

    def test_a_new_disk(self):
        for value in VALUES:
            disk = LoggedDisk()
            found = Journal(disk)
            self.assertEqual(disk.log, [])
            found.checkpoint(value)
            self.assertEqual(disk.log, self.checkpoint_steps(0, 1, value))
            self.assertEqual([disk.content(0), disk.content(1)], [begin(1, value), []])

    def test_files_alternate_and_generations_grow(self):
        disk = LoggedDisk()
        found = Journal(disk)
        expected = []
        for number, value in enumerate(VALUES):
            found.checkpoint(value)
            expected += self.checkpoint_steps(number % 2, number + 1, value)
            for event in VALUES:
                found.add(event)
                expected += self.event_steps(number % 2, event)
            self.assertEqual(disk.log, expected)
            self.assert_disk_holds(disk, number + 1, value, list(VALUES))
            self.assertEqual((disk.pending(0), disk.pending(1)), (0, 0))

    def test_after_loading(self):
        for first, second, current, generation in (
                (begin(5, "a"), [], 0, 5), ([], begin(5, "a"), 1, 5), (begin(5, "a"), begin(9, "b"), 1, 9),
                (begin(9, "b"), begin(5, "a"), 0, 9), ([255], begin(1, "a"), 1, 1),
                ([255], [7], 1, 0), ([], [7], 1, 0), (begin(2, "a"), begin(7, "b")[:-1], 0, 2)):
            disk = LoggedDisk()
            disk.append(0, first)
            disk.append(1, second)
            disk.sync(0)
            disk.sync(1)
            found, other = Journal(disk), 1 - current
            disk.log.clear()
            expected = []
            if generation > 0:
                found.add("e")
                expected += self.event_steps(current, "e")
            found.checkpoint("c")
            found.add("f")
            found.checkpoint("d")
            found.add("g")
            expected += self.checkpoint_steps(other, generation + 1, "c") + self.event_steps(other, "f")
            expected += self.checkpoint_steps(current, generation + 2, "d")
            expected += self.event_steps(current, "g")
            self.assertEqual(disk.log, expected)
            self.assert_disk_holds(disk, generation + 2, "d", ["g"])

    def test_the_older_checkpoint_and_its_events_stay_until_the_next_one(self):
        disk = Disk()
        found = Journal(disk)
        found.checkpoint("a")
        found.add(1)
        found.checkpoint("b")
        found.add(2)
        self.assertEqual(disk.content(0), begin(1, "a") + pack(1))
        self.assertEqual(disk.content(1), begin(2, "b") + pack(2))

    def test_values_and_events_of_each_kind(self):
        for value in VALUES + (nested(19), nested(20)):
            disk = Disk()
            found = Journal(disk)
            found.checkpoint(value)
            for event in VALUES + (nested(20),):
                found.add(event)
            disk.crash(0, 0)
            self.assert_disk_holds(disk, 1, value, list(VALUES + (nested(20),)))


class CrashRuns(Checks):
    """Promise 15."""

    def crashed(self, disk):
        """Yield the disks that each crash of the pending steps of a disk leaves."""
        for a in range(disk.pending(0) + 2):
            for b in range(disk.pending(1) + 2):
                left = copy.deepcopy(disk)
                left.crash(a, b)
                yield left

    def held(self, disk):
        found = Journal(disk)
        return (found.value, found.events)

    def cut_calls(self, disk, word, argument):
        """Yield (returned, disk) for a call in a new journal, for each limit of the power."""
        steps = 0
        returned = False
        while not returned:
            cut = copy.deepcopy(disk)
            found = Journal(cut)
            cut.limit(steps)
            try:
                getattr(found, word)(argument)
                returned = True
            except PowerCut:
                pass
            yield (returned, cut)
            steps += 1

    def outcomes(self, disk, word, argument, before, after):
        """Check each crash of a call at each end of the power; return the disks that are left."""
        left, seen, steps = [], [], 0
        for returned, cut in self.cut_calls(disk, word, argument):
            for crashed in self.crashed(cut):
                held = self.held(crashed)
                seen.append(held)
                if returned:
                    self.assertEqual(held, after)
                else:
                    self.assertIn(held, (before, after))
                self.assertEqual(self.held(crashed), held)
                left.append((crashed, held))
            steps += 1
        self.assertEqual(seen[0], before)
        self.assertEqual(seen[-1], after)
        expected = len(pack(argument)) + 2
        if word == "checkpoint":
            expected = len(begin(Journal(disk).generation + 1, argument)) + 3
        self.assertEqual(steps, expected)
        return left

    def starts(self):
        """Return the disks with which the calls below begin, and what each of them holds."""
        found = [(Disk(), (None, []))]
        for checkpoints in (1, 2, 3):
            for events in ([], [("x", 1), 2]):
                disk = Disk()
                journal = Journal(disk)
                for number in range(checkpoints):
                    journal.checkpoint(("v", number))
                    journal.add("old")
                journal.checkpoint("last")
                for event in events:
                    journal.add(event)
                found.append((disk, ("last", events)))
        return found

    def test_checkpoints(self):
        for disk, before in self.starts():
            for value in (None, ("new", (1, True)), 300):
                self.outcomes(disk, "checkpoint", value, before, (value, []))

    def test_events(self):
        for disk, before in self.starts()[1:]:
            value, events = before
            for event in (None, ("deliver", 300, ("a", "")), ("begin", 99, "z")):
                self.outcomes(disk, "add", event, before, (value, events + [event]))

    def test_a_crash_without_a_limit_loses_nothing(self):
        disk = Disk()
        found = Journal(disk)
        for number in range(5):
            found.checkpoint(number)
            disk.crash(0, 0)
            self.assertEqual(self.held(disk), (number, []))
            found.add("a")
            disk.crash(0, 0)
            found.add("b")
            disk.crash(0, 0)
            self.assertEqual(self.held(disk), (number, ["a", "b"]))

    def test_a_journal_goes_on_after_a_crash(self):
        for word in ("checkpoint", "add"):
            for disk, (value, events) in self.starts()[1:]:
                after = ("new", []) if word == "checkpoint" else (value, events + ["new"])
                for crashed, held in self.outcomes(disk, word, "new", (value, events), after):
                    generation = Journal(crashed).generation
                    again = Journal(crashed)
                    again.checkpoint((held[0], tuple(held[1])))
                    again.add(1)
                    again.add((2, "x"))
                    self.assert_disk_holds(crashed, generation + 1, (held[0], tuple(held[1])),
                                           [1, (2, "x")])
                    again.checkpoint("end")
                    again.add(3)
                    crashed.crash(0, 0)
                    self.assert_disk_holds(crashed, generation + 2, "end", [3])

    def test_a_crash_of_the_first_checkpoint_after_a_crash(self):
        disk, before = self.starts()[2]
        value, events = before
        for word, after in (("checkpoint", ("n", [])), ("add", (value, events + ["n"]))):
            for crashed, held in self.outcomes(disk, word, "n", before, after):
                self.outcomes(crashed, "checkpoint", "m", held, ("m", []))

    def test_the_same_journal_goes_on_with_a_checkpoint(self):
        for steps in range(40):
            disk = Disk()
            found = Journal(disk)
            found.checkpoint("a")
            found.add(1)
            disk.limit(steps)
            try:
                found.add(("event", 2))
                found.checkpoint("b")
            except PowerCut:
                pass
            disk.crash(steps, 0)
            found.checkpoint("c")
            found.add(3)
            disk.crash(0, 0)
            self.assertEqual(self.held(disk), ("c", [3]))
            self.assert_loaded(found, 0, None, [])

    def test_after_the_end_of_the_power_each_call_is_cut(self):
        disk = Disk()
        found = Journal(disk)
        found.checkpoint("a")
        disk.limit(0)
        for _ in range(2):
            with self.assertRaises(PowerCut):
                found.checkpoint("b")
            with self.assertRaises(PowerCut):
                found.add(1)
        self.assertEqual((disk.pending(0), disk.pending(1)), (0, 0))
        self.assert_disk_holds(disk, 1, "a", [])


if __name__ == "__main__":
    unittest.main()
