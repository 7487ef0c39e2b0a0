"""Promises 7, 8 and 9, and the interface section dawkline/record.py."""

import inspect
import itertools
import unittest

from dawkline import record
from dawkline.errors import Incomplete, InvalidRecord, MailError
from dawkline.record import pack, unpack

# The characters of a string of a value (promise 7).
SIGNS = "".join([chr(code) for code in range(32, 127) if chr(code) != "%"])
# The groups of counts at the edges (promise 8).
COUNTS = (
    (0, [0]), (1, [1]), (2, [2]), (126, [126]), (127, [127]),
    (128, [128, 1]), (129, [129, 1]), (255, [255, 1]), (256, [128, 2]), (300, [172, 2]),
    (16383, [255, 127]), (16384, [128, 128, 1]), (16385, [129, 128, 1]),
    (2097151, [255, 255, 127]), (2097152, [128, 128, 128, 1]),
    (2 ** 32, [128, 128, 128, 128, 16]),
    (2 ** 63 - 1, [255] * 8 + [127]), (2 ** 63, [128] * 9 + [1]),
    (2 ** 64 - 1, [255] * 9 + [1]), (2 ** 64, [128] * 9 + [2]),
    (2 ** 70 - 1, [255] * 9 + [127]), (2 ** 70, [128] * 10 + [1]),
    (2 ** 700, [128] * 100 + [1]), (2 ** 700 + 5, [133] + [128] * 99 + [1]),
)


def nested(depth, inside=()):
    """Return a tuple of this depth, the innermost of which holds some values."""
    value = inside
    for _ in range(depth - 1):
        value = (value,)
    return value


# Values of each kind, without those whose records are long.
VALUES = (
    None, True, False, 0, 1, 2, 37, 127, 128, 300, 16384, 2 ** 70, -1, -2, -128, -129, -2 ** 70,
    "", " ", "a", "~", "None", "0", SIGNS, "x" * 127, "x" * 128,
    (), (None,), (True,), (1,), ("",), ((),), ((), ()), (0, False, "", None, ()),
    ("a", 300, -1, None), (("begin", 1, ()), (1, (2, (3, (4,)))), "x"),
    nested(20), nested(20, (1, "a", True)), tuple(range(60)),
)


class Checks(unittest.TestCase):
    def assert_same(self, found, expected):
        """Equal, and of the same kinds: True is not 1 here."""
        self.assertIs(type(found), type(expected))
        if isinstance(expected, tuple):
            self.assertEqual(len(found), len(expected))
            for one, other in zip(found, expected):
                self.assert_same(one, other)
        else:
            self.assertEqual(found, expected)

    def assert_reads(self, data, at, value, place):
        kept = list(data)
        found = unpack(data, at)
        self.assertIs(type(found), tuple)
        self.assert_same(found, (value, place))
        self.assertEqual(data, kept)

    def assert_fault(self, error, place, data, at=0):
        kept = list(data)
        with self.assertRaises((Incomplete, InvalidRecord), msg=(data, at)) as caught:
            unpack(data, at)
        self.assertIs(type(caught.exception), error, (data, at))
        self.assertEqual(caught.exception.place, place, (data, at))
        self.assertIsInstance(caught.exception, MailError)
        self.assertEqual(data, kept)

    def assert_incomplete(self, data, at=0):
        self.assert_fault(Incomplete, len(data), data, at)

    def assert_invalid(self, place, data, at=0):
        self.assert_fault(InvalidRecord, place, data, at)


class Interface(unittest.TestCase):
    def test_names_arguments_and_file(self):
        self.assertEqual(str(inspect.signature(record.pack)), "(value)")
        self.assertEqual(str(inspect.signature(record.unpack)), "(data, at=0)")
        for found in (record.pack, record.unpack):
            self.assertEqual(found.__module__, "dawkline.record")

    def test_examples_of_the_document(self):
        self.assertEqual(pack(("a", 300, -1, None)), [6, 4, 5, 1, 97, 3, 172, 2, 4, 0, 0])
        self.assertEqual(unpack([9, 6, 1, 2, 7], 1), ((True,), 4))

    def test_the_index_may_be_given_by_its_name(self):
        self.assertEqual(unpack(data=[9, 2], at=1), (True, 2))


class Packing(Checks):
    """Promise 7: the record of each kind of value."""

    def test_none_and_truth(self):
        self.assertEqual([pack(None), pack(False), pack(True)], [[0], [1], [2]])

    def test_integers(self):
        for number, data in ((0, [3, 0]), (1, [3, 1]), (127, [3, 127]), (128, [3, 128, 1]),
                             (-1, [4, 0]), (-2, [4, 1]), (-128, [4, 127]), (-129, [4, 128, 1])):
            self.assertEqual(pack(number), data)

    def test_strings(self):
        for text, data in (("", [5, 0]), (" ", [5, 1, 32]), ("~", [5, 1, 126]), ("$", [5, 1, 36]),
                           ("&", [5, 1, 38]), ("a b", [5, 3, 97, 32, 98]), ("aa", [5, 2, 97, 97]),
                           ("\"'\\", [5, 3, 34, 39, 92]), ("None", [5, 4, 78, 111, 110, 101])):
            self.assertEqual(pack(text), data)

    def test_each_character(self):
        self.assertEqual(pack(SIGNS), [5, 94] + [code for code in range(32, 127) if code != 37])
        for sign in SIGNS:
            self.assertEqual(pack(sign), [5, 1, ord(sign)])

    def test_long_strings(self):
        self.assertEqual(pack("x" * 127), [5, 127] + [120] * 127)
        self.assertEqual(pack("x" * 128), [5, 128, 1] + [120] * 128)
        self.assertEqual(pack("x" * 16384), [5, 128, 128, 1] + [120] * 16384)

    def test_tuples(self):
        self.assertEqual(pack(()), [6, 0])
        self.assertEqual(pack(((),)), [6, 1, 6, 0])
        self.assertEqual(pack((None, False, True)), [6, 3, 0, 1, 2])
        self.assertEqual(pack((0, -1, "", ())), [6, 4, 3, 0, 4, 0, 5, 0, 6, 0])
        self.assertEqual(pack(((1, 2), 3)), [6, 2, 6, 2, 3, 1, 3, 2, 3, 3])

    def test_long_tuples(self):
        self.assertEqual(pack((None,) * 127), [6, 127] + [0] * 127)
        self.assertEqual(pack((None,) * 128), [6, 128, 1] + [0] * 128)
        self.assertEqual(pack((True, False) * 64), [6, 128, 1] + [2, 1] * 64)

    def test_nested_tuples(self):
        self.assertEqual(pack(nested(20)), [6, 1] * 19 + [6, 0])
        self.assertEqual(pack(nested(20, (7, "a"))), [6, 1] * 19 + [6, 2, 3, 7, 5, 1, 97])

    def test_no_error_for_tuples_that_are_nested_a_little_deeper(self):
        self.assertEqual(pack(nested(21)), [6, 1] * 20 + [6, 0])
        self.assertEqual(pack(nested(25)), [6, 1] * 24 + [6, 0])

    def test_each_call_returns_a_list_of_its_own(self):
        for value in VALUES:
            data = pack(value)
            self.assertIs(type(data), list)
            self.assertEqual({type(byte) for byte in data}, {int})
            data.append(9)
            self.assertEqual(pack(value), data[:-1])

    def test_different_values_have_different_records(self):
        records = [tuple(pack(value)) for value in VALUES]
        self.assertEqual(len(set(records)), len(VALUES))


class Counts(Checks):
    """Promise 8."""

    def test_integers(self):
        for count, groups in COUNTS:
            self.assertEqual(pack(count), [3] + groups, count)
            self.assertEqual(pack(-count - 1), [4] + groups, count)
            self.assert_reads([3] + groups, 0, count, 1 + len(groups))
            self.assert_reads([4] + groups, 0, -count - 1, 1 + len(groups))

    def test_lengths(self):
        for count, groups in COUNTS:
            if count <= 20000:
                text = "z" * count
                self.assertEqual(pack(text), [5] + groups + [122] * count)
                self.assert_reads([5] + groups + [122] * count, 0, text, 1 + len(groups) + count)
                self.assertEqual(pack((True,) * count), [6] + groups + [2] * count)
                self.assert_reads([6] + groups + [2] * count, 0, (True,) * count,
                                  1 + len(groups) + count)

    def test_a_group_of_zero_before_the_last_one(self):
        self.assert_reads([3, 128, 128, 3, 9], 0, 3 * 16384, 4)
        self.assert_reads([3, 129, 128, 128, 1], 0, 2097153, 5)

    def test_there_and_back(self):
        for number in list(range(-300, 300)) + [10 ** k + d for k in range(60) for d in (-1, 0, 1)]:
            for value in (number, -number):
                data = pack(value)
                self.assert_reads(data, 0, value, len(data))

    def test_the_form_of_the_groups(self):
        for power in range(300):
            groups = pack(2 ** power)[1:]
            self.assertEqual([byte >= 128 for byte in groups], [True] * (len(groups) - 1) + [False])
            self.assertNotEqual(groups[-1], 0)
            self.assertEqual(len(groups), power // 7 + 1)


class Unpacking(Checks):
    """Promises 7 and 9: reading what was written."""

    def test_there_and_back(self):
        for value in VALUES:
            data = pack(value)
            self.assert_reads(data, 0, value, len(data))
            self.assert_same(unpack(data), (value, len(data)))

    def test_other_bytes_before_and_behind(self):
        for value in VALUES:
            data = pack(value)
            for before in ([0], [255], [37, 6, 128], [6] * 30, pack(SIGNS)):
                for behind in ([], [0], [255], [128], [6, 6, 6], [5, 1]):
                    self.assert_reads(before + data + behind, len(before), value,
                                      len(before) + len(data))

    def test_records_in_a_row(self):
        data = []
        for value in VALUES:
            data.extend(pack(value))
        place = 0
        for value in VALUES:
            found, place = unpack(data, place)
            self.assert_same(found, value)
        self.assertEqual(place, len(data))

    def test_kinds_that_python_takes_for_equal(self):
        for value in (True, 1, False, 0, None, (), "", (True, 1, False, 0), (1, True, 0, False)):
            self.assert_reads(pack(value), 0, value, len(pack(value)))
        self.assertNotEqual(pack(True), pack(1))
        self.assertNotEqual(pack(False), pack(0))
        self.assertNotEqual(pack(None), pack(()))

    def test_twenty_tuples_are_not_too_deep(self):
        self.assert_reads([6, 1] * 19 + [6, 0], 0, nested(20), 40)
        wide = ((nested(18), nested(18)), nested(19))
        self.assert_reads(pack(wide), 0, wide, len(pack(wide)))

    def test_the_depth_counts_from_the_record_that_is_read(self):
        data = [6, 1] * 25 + [6, 0]
        self.assert_reads(data, 12, nested(20), 52)
        self.assert_invalid(50, data, 10)


class IncompleteRecords(Checks):
    """Promise 9: the bytes end inside a record."""

    def test_every_shorter_beginning(self):
        for value in VALUES:
            data = pack(value)
            for length in range(len(data)):
                self.assert_incomplete(data[:length])
                self.assert_incomplete([9, 9, 9] + data[:length], 3)

    def test_an_index_at_the_end_and_behind_it(self):
        self.assert_incomplete([])
        for at in (3, 4, 10, 10 ** 20):
            self.assert_incomplete([0, 1, 2], at)
            self.assert_incomplete([], at)

    def test_counts_that_are_greater_than_what_follows(self):
        for groups in ([1], [3], [127], [128, 1], [255] * 20 + [127]):
            self.assert_incomplete([5] + groups)
            self.assert_incomplete([6] + groups)
        self.assert_incomplete([5, 3, 97, 97])
        self.assert_incomplete([6, 3, 0, 0])
        self.assert_incomplete([6, 3, 0, 6, 2, 0])
        self.assert_incomplete([6] + [255] * 20 + [127] + [0] * 50)
        self.assert_incomplete([5] + [255] * 20 + [127] + [65] * 50)

    def test_counts_without_an_end(self):
        for kind in (3, 4, 5, 6):
            for groups in ([], [128], [255], [128] * 30, [255] * 30):
                self.assert_incomplete([kind] + groups)


class InvalidRecords(Checks):
    """Promise 9: a byte that cannot stand in a record."""

    def test_first_bytes(self):
        for byte in range(7, 256):
            self.assert_invalid(0, [byte])
            self.assert_invalid(2, [0, 0, byte, 0], 2)
            self.assert_invalid(2, [6, 1, byte])
            self.assert_invalid(5, [6, 2, 6, 1, 0, byte])
            self.assert_invalid(7, [6, 3, 5, 1, 97, 3, 9, byte, 0])

    def test_tuples_inside_twenty_others(self):
        for behind in ([], [0], [1, 0], [7], [128]):
            self.assert_invalid(40, [6, 1] * 20 + [6] + behind)
            self.assert_invalid(43, [6, 0, 9] + [6, 1] * 20 + [6] + behind, 3)
        self.assert_invalid(41, [6, 1] * 19 + [6, 2, 0, 6, 0])
        self.assert_invalid(40, pack(nested(21)))
        self.assert_invalid(40, pack(nested(25)))

    def test_other_values_inside_twenty_tuples(self):
        for value in (None, True, 5, -5, "abc"):
            self.assert_reads(pack(nested(20, (value,))), 0, nested(20, (value,)),
                              40 + len(pack(value)))

    def test_a_last_group_of_zero(self):
        for kind in (3, 4, 5, 6):
            for groups in ([128], [255], [129, 128], [128] * 12):
                place = 1 + len(groups)
                self.assert_invalid(place, [kind] + groups + [0])
                self.assert_invalid(place, [kind] + groups + [0, 0, 0])
                self.assert_invalid(place + 2, [6, 1, kind] + groups + [0])
            self.assertEqual(unpack([kind, 0])[1], 2)

    def test_bytes_of_strings(self):
        for byte in range(256):
            for before, behind in (([5, 1], []), ([5, 3, 97], [97]), ([9, 6, 1, 5, 2, 97], [])):
                at = before.index(5) if before[0] == 5 else 1
                data = before + [byte] + behind
                if byte < 32 or byte > 126 or byte == 37:
                    self.assert_invalid(len(before), data, at)
                else:
                    value, place = unpack(data, at)
                    self.assertIn(chr(byte), value if at == 0 else value[0])
                    self.assertEqual((pack(value), place), (data[at:], len(data)))


class FirstFaults(Checks):
    """Promise 9: the first fault from the left is raised."""

    def test_a_wrong_byte_before_another_one(self):
        self.assert_invalid(2, [5, 3, 31, 127, 37])
        self.assert_invalid(3, [5, 3, 97, 37, 31])
        self.assert_invalid(2, [6, 2, 9, 8])
        self.assert_invalid(3, [6, 2, 0, 7, 255])
        self.assert_invalid(2, [3, 128, 0, 255])
        self.assert_invalid(2, [5, 128, 0, 255])
        self.assert_invalid(4, [6, 2, 5, 1, 10, 3, 128, 0])
        self.assert_invalid(4, [6, 2, 3, 128, 0, 5, 1, 10])

    def test_a_wrong_byte_before_the_end_of_the_bytes(self):
        self.assert_invalid(2, [5, 9, 37])
        self.assert_invalid(3, [5, 9, 97, 200, 97])
        self.assert_invalid(4, [5, 128, 1, 97, 31])
        self.assert_invalid(22, [5] + [255] * 20 + [127, 37])
        self.assert_invalid(2, [6, 9, 7])
        self.assert_invalid(3, [6, 9, 0, 200])
        self.assert_invalid(22, [6] + [255] * 20 + [127, 9])
        self.assert_invalid(4, [6, 2, 5, 9, 37])
        self.assert_invalid(40, [6, 2] * 20 + [6])

    def test_the_end_of_the_bytes_before_a_wrong_byte(self):
        self.assert_incomplete([5, 2, 97])
        self.assert_incomplete([6, 2, 0])
        self.assert_incomplete([3, 128])

    def test_a_wrong_byte_behind_the_record_is_no_fault(self):
        self.assert_reads([5, 1, 97, 37], 0, "a", 3)
        self.assert_reads([6, 1, 0, 255], 0, (None,), 3)
        self.assert_reads([3, 128, 1, 0], 0, 128, 3)


class AllShortLists(Checks):
    """Promises 7 to 9, against a reader that works another way."""

    def read_all(self, data):
        """Return what unpack should give: ("value", value, place) or (error, place)."""
        # Each entry waits for items of a tuple: how many are missing, and those that are here.
        waiting, at = [], 0
        while True:
            if at == len(data):
                return (Incomplete, at)
            kind, start = data[at], at
            if kind > 6 or (kind == 6 and len(waiting) == 20):
                return (InvalidRecord, at)
            at += 1
            number = 0
            if kind > 2:
                while at < len(data) and data[at] > 127:
                    at += 1
                if at == len(data):
                    return (Incomplete, at)
                if data[at] == 0 and at > start + 1:
                    return (InvalidRecord, at)
                number = sum((byte % 128) << (7 * k) for k, byte in enumerate(data[start + 1:at + 1]))
                at += 1
            if kind == 5:
                for place in range(at, at + number):
                    if place == len(data):
                        return (Incomplete, place)
                    if chr(data[place]) not in SIGNS:
                        return (InvalidRecord, place)
            if kind == 6 and number > 0:
                waiting.append([number, []])
                continue
            value = [None, False, True, number, -number - 1,
                     "".join(map(chr, data[at:at + number])) if kind == 5 else "", ()][kind]
            at += number if kind == 5 else 0
            while waiting:
                waiting[-1][1].append(value)
                if len(waiting[-1][1]) < waiting[-1][0]:
                    break
                value = tuple(waiting.pop()[1])
            else:
                return ("value", value, at)

    def test_all_lists_of_some_bytes(self):
        bytes_of_interest = (0, 1, 2, 3, 4, 5, 6, 7, 31, 32, 37, 126, 127, 128, 129, 255)
        seen = {}
        for length in range(5):
            for data in itertools.product(bytes_of_interest, repeat=length):
                data = list(data)
                expected = self.read_all(data)
                if expected[0] == "value":
                    self.assert_reads(data, 0, expected[1], expected[2])
                    self.assertEqual(pack(expected[1]), data[:expected[2]])
                    seen[repr(expected[1])] = True
                else:
                    self.assert_fault(expected[0], expected[1], data)
        self.assertGreater(len(seen), 100)


class Arguments(Checks):
    """Promise 1: functions do not modify their arguments. Promise 2: byte lists and strings."""

    def test_reading_does_not_change_the_byte_list(self):
        for value in VALUES:
            data = [9] + pack(value) + [9]
            kept = list(data)
            unpack(data, 1)
            self.assertEqual(data, kept)

    def test_records_are_byte_lists(self):
        for value in VALUES:
            self.assertTrue(all(0 <= byte <= 255 for byte in pack(value)))


if __name__ == "__main__":
    unittest.main()
