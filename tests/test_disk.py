"""Promises 10, 11 and 12, and the interface section dawkline/disk.py."""

import copy
import inspect
import itertools
import unittest

from dawkline import disk as disk_module
from dawkline.disk import Disk
from dawkline.errors import MailError, PowerCut

METHODS = {"append": "(self, file, data)", "clear": "(self, file)", "sync": "(self, file)",
           "content": "(self, file)", "pending": "(self, file)", "limit": "(self, steps)",
           "crash": "(self, a, b)"}


def after(content, steps):
    """Return a content after pending steps, where None is a clearing."""
    while None in steps:
        content, steps = [], steps[steps.index(None) + 1:]
    return content + steps


class Model:
    """What the disk should do, with each step by itself."""

    def __init__(self):
        self.durable, self.steps, self.power = {0: [], 1: []}, {0: [], 1: []}, None

    def step(self):
        """Return True if one more step is possible, and count it."""
        if self.power is None:
            return True
        self.power -= 1
        return self.power >= 0

    def do(self, word, *rest):
        """Return "cut" if the power ends in this call, otherwise None."""
        if word == "limit":
            self.power = rest[0]
        elif word == "crash":
            for file in (0, 1):
                self.durable[file] = after(self.durable[file], self.steps[file][:rest[file]])
                self.steps[file] = []
            self.power = None
        elif word == "sync":
            if not self.step():
                return "cut"
            self.durable[rest[0]] = self.content(rest[0])
            self.steps[rest[0]] = []
        else:
            for byte in rest[1] if word == "append" else [None]:
                if not self.step():
                    return "cut"
                self.steps[rest[0]].append(byte)
        return None

    def content(self, file):
        return after(self.durable[file], self.steps[file])


class Checks(unittest.TestCase):
    def assert_disk(self, disk, contents, pending):
        self.assertEqual([disk.content(0), disk.content(1)], contents)
        self.assertEqual([disk.pending(0), disk.pending(1)], pending)

    def assert_durable(self, disk, first, second):
        """What a crash leaves that keeps no pending step."""
        crashed = copy.deepcopy(disk)
        crashed.crash(0, 0)
        self.assert_disk(crashed, [first, second], [0, 0])

    def assert_cut(self, call, *arguments):
        with self.assertRaises(PowerCut) as caught:
            call(*arguments)
        self.assertIsInstance(caught.exception, MailError)

    def assert_no_power(self, disk):
        """Every step raises PowerCut, and changes nothing."""
        before = [disk.content(0), disk.content(1)], [disk.pending(0), disk.pending(1)]
        for _ in range(2):
            for file in (0, 1):
                self.assert_cut(disk.append, file, [7])
                self.assert_cut(disk.append, file, [7, 8, 9])
                self.assert_cut(disk.clear, file)
                self.assert_cut(disk.sync, file)
        self.assert_disk(disk, *before)


class Interface(unittest.TestCase):
    def test_names_arguments_and_file(self):
        self.assertEqual(Disk.__module__, "dawkline.disk")
        self.assertIs(disk_module.Disk, Disk)
        self.assertEqual(str(inspect.signature(Disk)), "()")
        for name, arguments in METHODS.items():
            self.assertIn(name, vars(Disk))
            self.assertEqual(str(inspect.signature(getattr(Disk, name))), arguments)

    def test_kinds_of_values(self):
        disk = Disk()
        for found in (disk.append(0, [1, 2]), disk.clear(0), disk.sync(0), disk.limit(5),
                      disk.limit(None), disk.crash(1, 2)):
            self.assertIsNone(found)
        self.assertIs(type(disk.content(0)), list)
        self.assertIs(type(disk.pending(0)), int)


class Files(Checks):
    """Promise 10."""

    def test_a_new_disk_is_empty(self):
        self.assert_disk(Disk(), [[], []], [0, 0])

    def test_appending(self):
        disk = Disk()
        disk.append(0, [1, 2, 255, 0])
        self.assert_disk(disk, [[1, 2, 255, 0], []], [4, 0])
        disk.append(0, [])
        self.assert_disk(disk, [[1, 2, 255, 0], []], [4, 0])
        disk.append(0, [3])
        self.assert_disk(disk, [[1, 2, 255, 0, 3], []], [5, 0])
        self.assert_durable(disk, [], [])

    def test_clearing(self):
        disk = Disk()
        disk.append(0, [1, 2])
        disk.clear(0)
        self.assert_disk(disk, [[], []], [3, 0])
        disk.clear(0)
        self.assert_disk(disk, [[], []], [4, 0])
        disk.append(0, [3])
        self.assert_disk(disk, [[3], []], [5, 0])
        disk.clear(0)
        disk.append(0, [4, 5])
        self.assert_disk(disk, [[4, 5], []], [8, 0])

    def test_appending_and_clearing_after_a_durable_content(self):
        disk = Disk()
        disk.append(1, [1, 2])
        disk.sync(1)
        disk.append(1, [3])
        self.assert_disk(disk, [[], [1, 2, 3]], [0, 1])
        disk.clear(1)
        self.assert_disk(disk, [[], []], [0, 2])
        disk.append(1, [4, 5])
        self.assert_disk(disk, [[], [4, 5]], [0, 4])
        self.assert_durable(disk, [], [1, 2])

    def test_syncing(self):
        disk = Disk()
        disk.sync(0)
        self.assert_disk(disk, [[], []], [0, 0])
        disk.append(0, [1, 2])
        disk.sync(0)
        self.assert_disk(disk, [[1, 2], []], [0, 0])
        self.assert_durable(disk, [1, 2], [])
        disk.append(0, [3])
        disk.sync(0)
        disk.sync(0)
        self.assert_durable(disk, [1, 2, 3], [])
        disk.clear(0)
        disk.append(0, [4])
        disk.sync(0)
        self.assert_durable(disk, [4], [])
        disk.clear(0)
        disk.sync(0)
        self.assert_durable(disk, [], [])

    def test_the_files_do_not_touch_each_other(self):
        for file in (0, 1):
            disk, contents, pending = Disk(), [[], []], [0, 0]
            disk.append(1 - file, [8, 8])
            disk.sync(1 - file)
            disk.append(1 - file, [9])
            contents[1 - file], pending[1 - file] = [8, 8, 9], 1
            disk.append(file, [1, 2, 3])
            contents[file], pending[file] = [1, 2, 3], 3
            self.assert_disk(disk, contents, pending)
            disk.sync(file)
            pending[file] = 0
            self.assert_disk(disk, contents, pending)
            disk.clear(file)
            contents[file], pending[file] = [], 1
            self.assert_disk(disk, contents, pending)

    def test_two_disks_do_not_touch_each_other(self):
        one, other = Disk(), Disk()
        one.append(0, [1])
        one.limit(0)
        other.append(0, [2])
        other.sync(0)
        self.assert_disk(one, [[1], []], [1, 0])
        self.assert_disk(other, [[2], []], [0, 0])


class Lists(Checks):
    """Promise 10, and promise 1: lists are not shared, and arguments are not changed."""

    def test_a_list_that_is_appended_is_not_shared(self):
        for synced in (False, True):
            disk, data = Disk(), [1, 2]
            disk.append(0, data)
            if synced:
                disk.sync(0)
            data.append(3)
            data[0] = 9
            self.assertEqual(disk.content(0), [1, 2])
            disk.append(0, data)
            self.assertEqual((disk.content(0), data), ([1, 2, 9, 2, 3], [9, 2, 3]))

    def test_no_call_changes_the_list_that_it_gets(self):
        disk, data = Disk(), [1, 2, 3]
        disk.append(0, data)
        disk.append(0, data)
        disk.clear(0)
        disk.sync(0)
        disk.limit(2)
        self.assert_cut(disk.append, 1, data)
        disk.crash(9, 9)
        self.assertEqual(data, [1, 2, 3])

    def test_a_content_is_a_new_list(self):
        disk = Disk()
        for _ in range(2):
            for file in (0, 1):
                held = disk.content(file)
                kept = list(held)
                held.append(7)
                self.assertEqual(disk.content(file), kept)
                self.assertIsNot(disk.content(file), disk.content(file))
            disk.append(0, [1, 2])
            disk.append(1, [3])
            disk.sync(1)
        disk.content(0).clear()
        disk.sync(0)
        disk.content(0).clear()
        self.assert_disk(disk, [[1, 2, 1, 2], [3, 3]], [0, 0])

    def test_a_content_can_be_appended(self):
        disk = Disk()
        disk.append(0, [1, 2])
        disk.append(0, disk.content(0))
        disk.append(1, disk.content(0))
        self.assert_disk(disk, [[1, 2, 1, 2], [1, 2, 1, 2]], [4, 4])


class Power(Checks):
    """Promise 11."""

    def test_without_a_limit_power_never_ends(self):
        disk = Disk()
        for _ in range(100):
            disk.append(0, [5] * 200)
            disk.clear(1)
            disk.sync(1)
        self.assertEqual(disk.pending(0), 20000)

    def test_no_power(self):
        disk = Disk()
        disk.append(0, [1])
        disk.limit(0)
        self.assert_no_power(disk)
        self.assert_disk(disk, [[1], []], [1, 0])

    def test_a_limit_below_zero_is_no_power(self):
        for steps in (-1, -2, -100):
            disk = Disk()
            disk.append(0, [1, 2, 3])
            disk.limit(steps)
            self.assert_no_power(disk)
            disk.append(0, [])
            self.assert_disk(disk, [[1, 2, 3], []], [3, 0])
            disk.limit(1)
            disk.append(1, [4])
            self.assert_disk(disk, [[1, 2, 3], [4]], [3, 1])

    def test_one_step(self):
        for word, arguments, contents, pending in (
                ("append", (1, [9]), [[1], [9]], [1, 1]), ("clear", (0,), [[], []], [2, 0]),
                ("sync", (0,), [[1], []], [0, 0])):
            disk = Disk()
            disk.append(0, [1])
            disk.limit(1)
            getattr(disk, word)(*arguments)
            self.assert_disk(disk, contents, pending)
            self.assert_no_power(disk)

    def test_several_steps_over_both_files(self):
        disk = Disk()
        disk.limit(6)
        disk.append(0, [1, 2])
        disk.sync(0)
        disk.clear(1)
        disk.append(1, [3])
        disk.sync(1)
        self.assert_disk(disk, [[1, 2], [3]], [0, 0])
        self.assert_no_power(disk)

    def test_an_append_that_is_cut_after_some_bytes(self):
        for steps in range(5):
            disk = Disk()
            disk.limit(steps)
            self.assert_cut(disk.append, 0, [1, 2, 3, 4, 5])
            self.assert_disk(disk, [[1, 2, 3, 4, 5][:steps], []], [steps, 0])
            self.assert_durable(disk, [], [])
            self.assert_no_power(disk)

    def test_an_append_that_just_fits(self):
        disk = Disk()
        disk.limit(5)
        disk.append(0, [1, 2, 3, 4, 5])
        self.assert_disk(disk, [[1, 2, 3, 4, 5], []], [5, 0])
        self.assert_no_power(disk)

    def test_a_clearing_that_is_cut(self):
        disk = Disk()
        disk.append(0, [1, 2])
        disk.limit(0)
        self.assert_cut(disk.clear, 0)
        self.assert_disk(disk, [[1, 2], []], [2, 0])

    def test_a_sync_that_is_cut(self):
        disk = Disk()
        disk.limit(2)
        disk.append(0, [1, 2])
        self.assert_cut(disk.sync, 0)
        self.assert_disk(disk, [[1, 2], []], [2, 0])
        self.assert_durable(disk, [], [])

    def test_a_sync_of_nothing_is_a_step_too(self):
        disk = Disk()
        disk.limit(2)
        disk.sync(0)
        disk.sync(1)
        self.assert_cut(disk.sync, 0)

    def test_a_clearing_of_an_empty_file_is_a_step_too(self):
        disk = Disk()
        disk.limit(1)
        disk.clear(0)
        self.assert_cut(disk.clear, 0)
        self.assertEqual(disk.pending(0), 1)

    def test_an_empty_append_needs_no_power(self):
        disk = Disk()
        disk.limit(1)
        disk.append(0, [])
        disk.append(0, [1])
        self.assertIsNone(disk.append(0, []))
        self.assert_cut(disk.append, 0, [2])
        self.assertIsNone(disk.append(1, []))
        self.assert_disk(disk, [[1], []], [1, 0])
        self.assert_no_power(disk)

    def test_reading_needs_no_steps(self):
        disk = Disk()
        disk.limit(2)
        for _ in range(3):
            self.assert_disk(disk, [[], []], [0, 0])
        disk.append(0, [1, 2])
        self.assert_cut(disk.append, 0, [3])
        for _ in range(3):
            self.assert_disk(disk, [[1, 2], []], [2, 0])

    def test_a_new_limit_counts_further_steps(self):
        disk = Disk()
        disk.limit(3)
        disk.append(0, [1, 2])
        disk.limit(2)
        disk.append(0, [3, 4])
        self.assert_no_power(disk)
        disk.limit(1)
        disk.append(0, [5])
        self.assert_no_power(disk)
        disk.limit(0)
        self.assert_no_power(disk)
        self.assert_disk(disk, [[1, 2, 3, 4, 5], []], [5, 0])

    def test_the_end_of_a_limit(self):
        for steps, kept in ((0, []), (1, [1]), (2, [1, 2]), (9, [1, 2, 3])):
            disk = Disk()
            disk.limit(steps)
            if steps < 3:
                self.assert_cut(disk.append, 0, [1, 2, 3])
            else:
                disk.append(0, [1, 2, 3])
            disk.limit(None)
            disk.append(1, [3] * 50)
            disk.sync(1)
            self.assert_disk(disk, [kept, [3] * 50], [len(kept), 0])


class Crashes(Checks):
    """Promise 12."""

    def made(self):
        """A disk with a durable content and pending steps in both files."""
        disk = Disk()
        disk.append(0, [1, 2])
        disk.append(1, [3])
        disk.sync(0)
        disk.sync(1)
        disk.append(0, [4, 5])
        disk.clear(1)
        disk.append(1, [6, 7])
        return disk

    def test_each_number_of_steps_that_are_kept(self):
        first = [[1, 2], [1, 2, 4], [1, 2, 4, 5], [1, 2, 4, 5]]
        second = [[3], [], [6], [6, 7], [6, 7]]
        for a, b in itertools.product(range(4), range(5)):
            disk = self.made()
            disk.crash(a, b)
            self.assert_disk(disk, [first[a], second[b]], [0, 0])
            self.assert_durable(disk, first[a], second[b])

    def test_many_more_than_there_are(self):
        disk = self.made()
        disk.crash(10 ** 30, 10 ** 30)
        self.assert_disk(disk, [[1, 2, 4, 5], [6, 7]], [0, 0])

    def test_numbers_below_zero_keep_nothing(self):
        disk = self.made()
        disk.crash(-1, -2)
        self.assert_disk(disk, [[1, 2], [3]], [0, 0])

    def test_a_second_crash_changes_nothing(self):
        disk = self.made()
        disk.crash(1, 2)
        disk.crash(0, 5)
        disk.crash(5, 0)
        self.assert_disk(disk, [[1, 2, 4], [6]], [0, 0])

    def test_what_was_synced_stays(self):
        disk = self.made()
        disk.sync(0)
        disk.crash(0, 0)
        self.assert_disk(disk, [[1, 2, 4, 5], [3]], [0, 0])
        disk.clear(0)
        disk.sync(0)
        disk.crash(0, 0)
        self.assert_disk(disk, [[], [3]], [0, 0])

    def test_a_crash_of_a_new_disk(self):
        disk = Disk()
        disk.crash(0, 0)
        disk.crash(3, 3)
        self.assert_disk(disk, [[], []], [0, 0])

    def test_the_limit_is_removed(self):
        for steps in (0, 1, 2, 100):
            disk = self.made()
            disk.limit(steps)
            if steps < 2:
                self.assert_cut(disk.append, 0, [8, 9])
            disk.crash(0, 0)
            disk.append(0, [8] * 300)
            disk.sync(0)
            self.assert_disk(disk, [[1, 2] + [8] * 300, [3]], [0, 0])

    def test_a_crash_needs_no_power(self):
        disk = self.made()
        disk.limit(0)
        disk.crash(2, 3)
        self.assert_disk(disk, [[1, 2, 4, 5], [6, 7]], [0, 0])

    def test_the_disk_goes_on_after_a_crash(self):
        disk = self.made()
        disk.crash(1, 1)
        disk.append(0, [9])
        disk.append(1, [9])
        self.assert_disk(disk, [[1, 2, 4, 9], [9]], [1, 1])
        disk.crash(0, 1)
        self.assert_disk(disk, [[1, 2, 4], [9]], [0, 0])


class AllShortRuns(Checks):
    """Promises 10 to 12, against a model, for all runs of a few calls."""

    def test_all_runs(self):
        calls = [("append", 0, []), ("append", 0, [1, 2]), ("append", 1, [3]), ("clear", 0),
                 ("sync", 0), ("sync", 1), ("limit", 1), ("limit", 3), ("limit", None),
                 ("crash", 0, 9), ("crash", 1, 0)]
        for run in itertools.product(calls, repeat=4):
            disk, model = Disk(), Model()
            for word, *rest in run:
                cut = None
                try:
                    getattr(disk, word)(*rest)
                except PowerCut:
                    cut = "cut"
                self.assertEqual(cut, model.do(word, *rest), run)
            self.assertEqual([disk.content(0), disk.content(1)], [model.content(0), model.content(1)], run)
            self.assertEqual([disk.pending(0), disk.pending(1)],
                             [len(model.steps[0]), len(model.steps[1])], run)


if __name__ == "__main__":
    unittest.main()
