"""Promises 1.1 and 1.2: rows of code, the words that write them, and what those that reckon do."""

import random
import unittest

from underfloor.code import coded, decoded, is_row, reckoned
from underfloor.errors import NoCode

TOP = 2 ** 32 - 1
MOST = 2 ** 16 - 1

# Each row's word is reckoned by hand: place, a, b, c in binary, then n.
WRITTEN = (
    (("put", 1, 16), 0b0000000_001_000_000 << 16 | 16),
    (("high", 7, 65535), 0b0000001_111_000_000 << 16 | 65535),
    (("copy", 2, 5), 0b0000010_010_101_000 << 16),
    (("add", 1, 2, 3), 0b0000011_001_010_011 << 16),
    (("less", 7, 0, 7), 0b0000100_111_000_111 << 16),
    (("times", 0, 7, 0), 0b0000101_000_111_000 << 16),
    (("cut", 4, 5, 6), 0b0000110_100_101_110 << 16),
    (("rest", 6, 5, 4), 0b0000111_110_101_100 << 16),
    (("under", 0, 0, 7), 0b0001000_000_000_111 << 16),
    (("same", 3, 3, 3), 0b0001001_011_011_011 << 16),
    (("load", 1, 2, 16), 0b0001010_001_010_000 << 16 | 16),
    (("store", 7, 7, 65535), 0b0001011_111_111_000 << 16 | 65535),
    (("jump", 255), 0b0001100_000_000_000 << 16 | 255),
    (("if", 3, 256), 0b0001101_011_000_000 << 16 | 256),
    (("call",), 0b0001110_000_000_000 << 16),
)
SHAPES = {
    "put": "rn", "high": "rn", "copy": "rr", "add": "rrr", "less": "rrr", "times": "rrr", "cut": "rrr",
    "rest": "rrr", "under": "rrr", "same": "rrr", "load": "rrn", "store": "rrn", "jump": "n", "if": "rn",
    "call": "",
}
NO_ROWS = (
    None, True, 0, 5, "", "call", "put", [], ["call"], ["put", 0, 0], {}, {"call": 1}, (), ((),), (None,), (0,),
    ("",), ("Call",), ("call ",), ("word", 5), ("halt",), ("put",), ("call", 0), ("call", None), ("jump",),
    ("jump", 0, 0), ("put", 0), ("put", 0, 0, 0), ("copy", 0), ("copy", 0, 0, 0), ("add", 0, 0),
    ("add", 0, 0, 0, 0), ("load", 0, 0), ("if", 0), ("if", 0, 0, 0),
    ([], 0, 0), (["put"], 0, 0), ({}, 0, 0), ({"put": 1},), (("put",), 0, 0), (True, 0, 0), (b"put", 0, 0),
)


def at_bounds(name):
    low = (name,) + tuple([0 for sign in SHAPES[name]])
    high = (name,) + tuple([7 if sign == "r" else MOST for sign in SHAPES[name]])
    return low, high


def spoiled(name):
    """Rows with one part that can't stand, all else as told."""
    low, high = at_bounds(name)
    for place, sign in enumerate(SHAPES[name]):
        beyond = 8 if sign == "r" else 2 ** 16
        for part in (-1, beyond, 2 ** 32, True, False, None, "0", "r0", 1.0, [], [0], (), (0,), {}, {0: 0}):
            yield low[:place + 1] + (part,) + low[place + 2:]
            yield high[:place + 1] + (part,) + high[place + 2:]


class IsRow(unittest.TestCase):
    def test_each_of_the_fifteen(self):
        for row, word in WRITTEN:
            self.assertIs(is_row(row), True, row)

    def test_at_the_bounds(self):
        for name in SHAPES:
            for row in at_bounds(name):
                self.assertIs(is_row(row), True, row)

    def test_parts_that_cannot_stand(self):
        for name in SHAPES:
            for row in spoiled(name):
                self.assertIs(is_row(row), False, row)

    def test_what_is_no_row(self):
        for thing in NO_ROWS:
            self.assertIs(is_row(thing), False, thing)

    def test_a_list_is_none(self):
        for row, word in WRITTEN:
            self.assertIs(is_row(list(row)), False, row)

    def test_a_part_too_many_or_too_few(self):
        for row, word in WRITTEN:
            self.assertIs(is_row(row + (0,)), False, row)
            self.assertIs(is_row(row[:-1]), False, row)


class Coded(unittest.TestCase):
    def test_each_of_the_fifteen(self):
        self.assertEqual([row[0] for row, word in WRITTEN], list(SHAPES))
        for row, word in WRITTEN:
            self.assertEqual(coded(row), word, row)

    def test_by_powers_as_the_document_tells(self):
        self.assertEqual(coded(("put", 0, 0)), 0)
        self.assertEqual(coded(("high", 0, 0)), 2 ** 25)
        self.assertEqual(coded(("load", 1, 2, 16)), 10 * 2 ** 25 + 2 ** 22 + 2 * 2 ** 19 + 16)
        self.assertEqual(coded(("same", 7, 7, 7)), 9 * 2 ** 25 + 7 * 2 ** 22 + 7 * 2 ** 19 + 7 * 2 ** 16)
        self.assertEqual(coded(("call",)), 14 * 2 ** 25)

    def test_what_is_no_row(self):
        for thing in NO_ROWS:
            with self.assertRaises(NoCode):
                coded(thing)
        for name in SHAPES:
            for row in spoiled(name):
                with self.assertRaises(NoCode):
                    coded(row)


class Decoded(unittest.TestCase):
    def test_each_of_the_fifteen(self):
        for row, word in WRITTEN:
            self.assertEqual(decoded(word), row)

    def test_there_and_back(self):
        for name in SHAPES:
            for row in at_bounds(name):
                self.assertEqual(decoded(coded(row)), row)

    def test_the_parts_of_a_row_are_whole_numbers_in_a_tuple(self):
        for row, word in WRITTEN:
            self.assertIs(type(decoded(word)), tuple)
            self.assertTrue(all([type(part) is int for part in decoded(word)[1:]]), row)

    def test_something_where_the_row_has_nothing(self):
        bits = {"a": 2 ** 22, "b": 2 ** 19, "c": 2 ** 16, "n": 1}
        lacks = {"rn": "bc", "rr": "cn", "rrr": "n", "rrn": "c", "n": "abc", "": "abcn"}
        for name in SHAPES:
            low, high = at_bounds(name)
            for field in lacks[SHAPES[name]]:
                most = MOST if field == "n" else 7
                for many in (1, most):
                    self.assertIsNone(decoded(coded(low) + many * bits[field]), (name, field))
                    self.assertIsNone(decoded(coded(high) + many * bits[field]), (name, field))

    def test_beyond_the_fifteen(self):
        for place in range(15, 128):
            for rest in (0, 1, 2 ** 16, 2 ** 25 - 1):
                self.assertIsNone(decoded(place * 2 ** 25 + rest), place)
        self.assertIsNone(decoded(TOP))

    def test_numbers_beyond_the_words(self):
        for number in (-1, -2 ** 25, -2 ** 32, 2 ** 32, 2 ** 32 + 1, 2 ** 33):
            self.assertIsNone(decoded(number), number)

    def test_any_word(self):
        chance = random.Random(1)
        rows = 0
        for turn in range(20000):
            word = chance.randrange(2 ** 29) & chance.choice((TOP, TOP - MOST, TOP - 7 * 2 ** 16))
            row = decoded(word)
            if row is not None:
                rows = rows + 1
                self.assertTrue(is_row(row), row)
                self.assertEqual(coded(row), word)
        self.assertGreater(rows, 1000)


class Reckoned(unittest.TestCase):
    def reckon(self, row, **words):
        regs = [words.get(f"r{number}", 1000 + number) for number in range(8)]
        before, row_before = list(regs), tuple(row)
        told = reckoned(row, regs)
        self.assertEqual(regs, before)
        self.assertEqual(row, row_before)
        if told is not None:
            self.assertIs(type(told), int, row)
            self.assertTrue(0 <= told <= TOP, row)
        return told

    def of_two(self, name, left, right):
        told = self.reckon((name, 0, 1, 2), r1=left, r2=right)
        self.assertEqual(told, self.reckon((name, 1, 1, 7), r1=left, r7=right))
        return told

    def test_put(self):
        self.assertEqual(self.reckon(("put", 0, 0), r0=TOP), 0)
        self.assertEqual(self.reckon(("put", 7, MOST), r7=TOP), MOST)

    def test_high(self):
        self.assertEqual(self.reckon(("high", 3, 1), r3=0), 2 ** 16)
        self.assertEqual(self.reckon(("high", 3, 2), r3=0xABCD1234), 0x00021234)
        self.assertEqual(self.reckon(("high", 3, 0), r3=TOP), MOST)
        self.assertEqual(self.reckon(("high", 3, MOST), r3=TOP), TOP)
        self.assertEqual(self.reckon(("high", 3, MOST), r3=0), TOP - MOST)
        self.assertEqual(self.reckon(("high", 3, MOST), r3=2 ** 16), TOP - MOST)

    def test_copy(self):
        self.assertEqual(self.reckon(("copy", 0, 7), r0=5, r7=TOP), TOP)
        self.assertEqual(self.reckon(("copy", 7, 0), r0=0, r7=TOP), 0)
        self.assertEqual(self.reckon(("copy", 4, 4), r4=9), 9)

    def test_add(self):
        self.assertEqual(self.of_two("add", 2, 3), 5)
        self.assertEqual(self.of_two("add", TOP, 0), TOP)
        self.assertEqual(self.of_two("add", TOP, 1), 0)
        self.assertEqual(self.of_two("add", TOP, TOP), TOP - 1)
        self.assertEqual(self.of_two("add", 2 ** 31, 2 ** 31), 0)

    def test_less(self):
        self.assertEqual(self.of_two("less", 5, 3), 2)
        self.assertEqual(self.of_two("less", 3, 5), TOP - 1)
        self.assertEqual(self.of_two("less", 0, 1), TOP)
        self.assertEqual(self.of_two("less", 0, TOP), 1)
        self.assertEqual(self.of_two("less", TOP, TOP), 0)

    def test_times(self):
        self.assertEqual(self.of_two("times", 6, 7), 42)
        self.assertEqual(self.of_two("times", TOP, 0), 0)
        self.assertEqual(self.of_two("times", 2 ** 16, 2 ** 16), 0)
        self.assertEqual(self.of_two("times", TOP, TOP), 1)
        self.assertEqual(self.of_two("times", TOP, 2), TOP - 1)

    def test_cut(self):
        self.assertEqual(self.of_two("cut", 17, 5), 3)
        self.assertEqual(self.of_two("cut", 4, 5), 0)
        self.assertEqual(self.of_two("cut", 5, 5), 1)
        self.assertEqual(self.of_two("cut", TOP, 1), TOP)
        self.assertEqual(self.of_two("cut", TOP, TOP - 1), 1)
        self.assertEqual(self.of_two("cut", 0, TOP), 0)

    def test_rest(self):
        self.assertEqual(self.of_two("rest", 17, 5), 2)
        self.assertEqual(self.of_two("rest", 4, 5), 4)
        self.assertEqual(self.of_two("rest", 5, 5), 0)
        self.assertEqual(self.of_two("rest", TOP, 1), 0)
        self.assertEqual(self.of_two("rest", TOP, TOP - 1), 1)
        self.assertEqual(self.of_two("rest", 2 ** 32 - 2, TOP), TOP - 1)

    def test_parted_by_nought(self):
        for name in ("cut", "rest"):
            for left in (0, 1, TOP):
                self.assertIsNone(self.of_two(name, left, 0), name)

    def test_under(self):
        self.assertEqual(self.of_two("under", 1, 2), 1)
        self.assertEqual(self.of_two("under", 2, 2), 0)
        self.assertEqual(self.of_two("under", 3, 2), 0)
        self.assertEqual(self.of_two("under", 0, TOP), 1)
        self.assertEqual(self.of_two("under", TOP, 0), 0)
        self.assertEqual(self.of_two("under", 2 ** 31 - 1, 2 ** 31), 1)
        self.assertEqual(self.of_two("under", 2 ** 31, 2 ** 31 - 1), 0)

    def test_same(self):
        self.assertEqual(self.of_two("same", 0, 0), 1)
        self.assertEqual(self.of_two("same", TOP, TOP), 1)
        self.assertEqual(self.of_two("same", 0, TOP), 0)
        self.assertEqual(self.of_two("same", TOP, 0), 0)
        self.assertEqual(self.of_two("same", 2 ** 31, 2 ** 31 + 1), 0)

    def test_one_register_thrice(self):
        self.assertEqual(self.reckon(("add", 5, 5, 5), r5=2 ** 31 + 1), 2)
        self.assertEqual(self.reckon(("less", 5, 5, 5), r5=9), 0)
        self.assertEqual(self.reckon(("cut", 5, 5, 5), r5=9), 1)
        self.assertIsNone(self.reckon(("rest", 5, 5, 5), r5=0))


if __name__ == "__main__":
    unittest.main()
