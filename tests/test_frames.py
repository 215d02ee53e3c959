"""Promise 5.1: the kernel's memory, and where it is good."""

import unittest

from bending import NO_STATES, bends, changed, kept
from underfloor.frames import free_frames, memory_wrong, new_memory, page_of, promised

TOP = 2 ** 32 - 1
NOUGHTS = (0,) * 16


def page(word):
    return tuple(range(word, word + 16))


def small():
    """Of ten frames: 1 own, 3 parted by three, 4 parted by one alone, 6 lent and held thrice, 8 own; 2 are promised."""
    return {
        "frames": [page(number * 100) for number in range(10)],
        "held": [0, 1, 0, 3, 1, 0, 3, 0, 1, 0],
        "tables": {
            1: {0: (1, "own"), 4095: (3, "parted"), 7: (6, "lent"), 8: (6, "lent")},
            15: {0: (3, "parted"), 1: (3, "parted"), 2: (4, "parted")},
            2: {},
            3: {5: (6, "lent"), 0: (8, "own")},
        },
        "lent": {15: 6},
    }


def just_enough():
    """Two frames are parted by two entries each, and just two are free."""
    table = {0: (0, "parted"), 1: (2, "parted")}
    return {"frames": [NOUGHTS] * 4, "held": [2, 0, 2, 0], "tables": {4: dict(table), 9: dict(table)}, "lent": {}}


def good_memories():
    full = {number: {4095 - number: (number, "own")} for number in range(1, 16)}
    lent = {number: 63 - number for number in range(1, 16)}
    all_lent = {1: {number: (63 - number, "lent") for number in range(1, 16)}}
    return [
        new_memory(4), new_memory(64), small(), just_enough(),
        {"frames": [page(TOP - 15)] * 16, "held": [0] + [1] * 15, "tables": full, "lent": {}},
        {"frames": [NOUGHTS] * 64, "held": [0] * 48 + [1] * 15 + [0], "tables": all_lent, "lent": lent},
        {"frames": [NOUGHTS] * 4, "held": [1, 1, 1, 1], "tables": {1: {n: (n, "own") for n in range(4)}}, "lent": {}},
        {"frames": [NOUGHTS] * 4, "held": [0, 0, 0, 0], "tables": {n: {} for n in range(1, 16)}, "lent": {}},
    ]


BENT = (
    (("frames",), ([NOUGHTS] * 3, [NOUGHTS] * 9, [NOUGHTS] * 11, [NOUGHTS] * 65, [], [[0] * 16] * 10)),
    (("frames", 0), ((), NOUGHTS[1:], NOUGHTS + (0,), (TOP + 1,) * 16, (-1,) * 16)),
    (("held",), ([], [0] * 10, [0, 1, 0, 3, 1, 0, 3, 0, 1], [0, 1, 0, 3, 1, 0, 3, 0, 1, 0, 0])),
    (("held", 0), (1, -1, TOP)),
    (("held", 1), (0, 2)),
    (("held", 3), (2, 4)),
    (("held", 6), (2, 4)),
    (("tables", 0), ({},)),
    (("tables", 16), ({},)),
    (("tables", -1), ({},)),
    (("tables", 2), ({0: (10, "own")}, {0: (-1, "own")}, {-1: (0, "own")}, {4096: (0, "own")}, {0: (0, "own")},
                     {0: (0, "Own")}, {0: (0, "")}, {0: (0, [])}, {0: (3, "parted")})),
    (("tables", 1), ({}, {0: (1, "own"), 4095: (3, "parted"), 7: (6, "lent")},
                     {0: (1, "parted"), 4095: (3, "own"), 7: (6, "lent"), 8: (6, "lent")},
                     {0: (1, "own"), 4095: (3, "lent"), 7: (6, "lent"), 8: (6, "lent")},
                     {0: (1, "lent"), 4095: (3, "parted"), 7: (6, "lent"), 8: (6, "lent")},
                     {0: (1, "own"), 4095: (3, "parted"), 7: (6, "lent"), 8: (6, "parted")},
                     {0: (1, "own"), 4095: (3, "parted"), 7: (6, "own"), 8: (6, "lent")})),
    (("lent",), ({}, {1: 6, 2: 6}, {15: 3}, {15: 1}, {15: 0}, {15: 6, 1: 0}, {15: 6, 1: 4}, {0: 6}, {16: 6}, {-1: 6},
                 {15: 10}, {15: -1}, {15: 6, 1: 1}, {15: 6, 1: 10}, {15: 6, 1: -1}, {15: 6, 1: 64})),
)


class Memory(unittest.TestCase):
    def wrong(self, thing, why=None):
        told = kept(self, memory_wrong, thing)
        self.assertIsInstance(told, str, why)
        self.assertNotEqual(told, "")

    def test_good_memories(self):
        for memory in good_memories():
            self.assertIsNone(kept(self, memory_wrong, memory))

    def test_things_that_are_no_memory(self):
        for thing in NO_STATES:
            self.assertIsInstance(memory_wrong(thing), str, thing)

    def test_parts_of_other_kinds(self):
        for memory in (small(), just_enough()):
            for thing in bends(memory):
                self.assertIsInstance(memory_wrong(thing), str, thing)

    def test_bent_memories(self):
        for path, parts in BENT:
            for part in parts:
                self.wrong(changed(small(), path, part), (path, part))

    def test_entries_beyond_the_bounds(self):
        for number, entry, good in ((0, (3, "own"), True), (4095, (3, "own"), True), (-1, (3, "own"), False),
                                    (4096, (3, "own"), False), (0, (-1, "own"), False)):
            memory = {**new_memory(4), "held": [0, 0, 0, 1], "tables": {1: {number: entry}}}
            self.assertEqual(memory_wrong(memory) is None, good, (number, entry))

    def test_own_frame_of_two_entries(self):
        for ways in (("own", "own"), ("own", "parted"), ("parted", "own"), ("own", "lent"), ("lent", "parted")):
            tables = {1: {0: (0, ways[0])}, 2: {0: (0, ways[1])}}
            for lent in ({}, {1: 0}):
                self.wrong({**new_memory(8), "held": [2] + [0] * 7, "tables": tables, "lent": lent}, ways)
        tables = {1: {0: (0, "parted")}, 2: {0: (0, "parted")}}
        self.assertIsNone(memory_wrong({**new_memory(8), "held": [2] + [0] * 7, "tables": tables}))
        tables = {1: {0: (0, "lent")}, 2: {0: (0, "lent")}}
        self.assertIsNone(memory_wrong({**new_memory(8), "held": [2] + [0] * 7, "tables": tables, "lent": {1: 0}}))

    def test_fewer_free_than_promised(self):
        self.assertIsNone(memory_wrong(just_enough()))
        memory = just_enough()
        memory["tables"][1] = {0: (1, "own")}
        memory["held"][1] = 1
        self.wrong(memory)
        table = {0: (0, "parted")}
        for many in range(2, 8):
            memory = {**new_memory(6), "tables": {n: table for n in range(1, many + 1)}, "held": [many] + [0] * 5}
            self.assertEqual(memory_wrong(memory) is None, many <= 6, many)

    def test_many_frames(self):
        for many in range(0, 70):
            self.assertEqual(memory_wrong({**new_memory(many)}) is None, 4 <= many <= 64, many)

    def test_new_memory(self):
        self.assertEqual(new_memory(4), {"frames": [NOUGHTS] * 4, "held": [0] * 4, "tables": {}, "lent": {}})
        self.assertEqual(len(new_memory(64)["frames"]), 64)

    def test_free_frames(self):
        self.assertEqual(kept(self, free_frames, small()), [0, 2, 5, 7, 9])
        self.assertEqual(free_frames(just_enough()), [1, 3])
        self.assertEqual(free_frames(new_memory(4)), [0, 1, 2, 3])

    def test_promised(self):
        told = [kept(self, promised, memory) for memory in (small(), just_enough(), new_memory(5))]
        self.assertEqual(told, [2, 2, 0])

    def test_page_of(self):
        for task, number, frame in ((1, 0, 1), (1, 4095, 3), (1, 7, 6), (1, 8, 6), (15, 1, 3), (15, 2, 4), (3, 5, 6)):
            self.assertEqual(kept(self, page_of, small(), task, number), page(frame * 100))
        for task, number in ((1, 1), (1, 4096), (2, 0), (4, 0), (16, 0), (1, -1)):
            self.assertIsNone(kept(self, page_of, small(), task, number))


if __name__ == "__main__":
    unittest.main()
