"""Promises 11.1 and, of 11.2, a row of a ready task's code: kernels, where they are good, and their rows."""

import random
import unittest

from bending import NO_STATES, bends, changed, kept
from floorworlds import padded, small_floor
from kernelworlds import ready_ones, seen_of_kernel, seen_of_plain, worlds
from plainworlds import NOUGHTS, TOP
from slotworlds import box, boxes_of, slot, slots_of, waiting
from underfloor.code import coded
from underfloor.errors import NoTask
from underfloor.kernels import kernel_row, kernel_wrong
from underfloor.plainrows import plain_row
from underfloor.turns import no_turns


def page(*rows):
    return padded(*[coded(row) for row in rows])


def small_kernel():
    """1, 6 and 3 are ready; 2 waits to take, 4 for its child 5, which is ready; 7 has ended, a child of 1."""
    slots = {
        **waiting(2, "take", 2), 1: slot(first=7, rank=3, handles={1: 39, 7: 17}), 6: slot(rank=0), 3: slot(rank=2),
        4: slot(first=5, waits=("child",)), 5: slot(parent=4), 7: slot(parent=1, waits=("ended", 9)),
    }
    memory = {
        "frames": [page(("put", 0, number)) for number in range(8)], "held": [1, 2, 0, 1, 0, 2, 0, 0],
        "tables": {1: {0: (0, "own"), 2: (1, "parted")}, 2: {}, 3: {0: (3, "parted"), 1: (5, "lent")}, 4: {},
                   5: {0: (1, "parted"), 4095: (5, "lent")}, 6: {}},
        "lent": {4: 5},
    }
    turns = ([(6, 7)], [(5, 0)], [(3, 3)], [], [(1, 8)])
    return {"memory": memory, "slots": slots_of(slots), "boxes": boxes_of({2: box(3, (), 1, (2,)), 9: box(1, (5,))}),
            "floor": small_floor(), "turns": turns}


def empty_kernel(many=40):
    from underfloor.frames import new_memory
    from underfloor.trees import new_floor
    return {"memory": new_memory(4), "slots": slots_of({}), "boxes": boxes_of({}), "floor": new_floor(many), "turns": no_turns()}


TURNS = (
    # each is no turns, or not those of the small kernel
    ([(6, 7)], [(5, 0)], [(3, 3)], [], []),
    ([(6, 7)], [(5, 0)], [(3, 3)], [(1, 0)], [(1, 8)]),
    ([(6, 7)], [(5, 0)], [(3, 3)], [(1, 0), (2, 0)], []),
    ([(6, 7)], [(5, 0)], [(3, 3)], [(2, 0)], []),
    ([(6, 7)], [(5, 0)], [(3, 3)], [], [(1, 8), (7, 8)]),
    ([(6, 7)], [(5, 0)], [(3, 3)], [], [(1, 8), (8, 8)]),
    ([(6, 7)], [(5, 0)], [(3, 3), (1, 0)], [], []),
    ([], [(5, 0), (6, 7)], [(3, 3)], [], [(1, 8)]),
    ([(6, 7)], [(5, 0), (5, 0)], [(3, 3)], [], [(1, 8)]),
    ([(6, 8)], [(5, 0)], [(3, 3)], [], [(1, 8)]),
    ([(6, -1)], [(5, 0)], [(3, 3)], [], [(1, 8)]),
    ([(6, 7)], [(5, 0)], [(3, 3)], [], [(1, 7)]),
    ([(6, 7)], [(5, 0)], [(3, 3)], [], [(1, 9)]),
    ([(6, 7)], [(5, 0)], [(3, 3)], [(1, 0)]),
    ([(6, 7)], [(5, 0)], [(3, 3)], [], [(1, 8)], []),
    ([(6, 7)], [(5, 0)], [(3, 3)], [(0, 0)], [(1, 8)]),
    ([(6, 7)], [(5, 0)], [(3, 3)], [(16, 0)], [(1, 8)]),
    ([], [], [], [], []), (), None,
)
BENT = (
    (("memory", "held", 0), (0, 2)),
    (("memory", "tables"), ({},)),
    (("memory", "tables", 7), ({},)),
    (("memory", "tables", 8), ({},)),
    (("memory", "lent"), ({}, {4: 5, 5: 5}, {4: 0})),
    (("slots", 1, "first"), (0, 5)),
    (("slots", 6, "rank"), (1, 2, 3, 4)),
    (("slots", 6, "waits"), (("take", 2), ("child",), ("ended", 0))),
    (("slots", 2, "waits"), (None,)),
    (("slots", 8), (slot(),)),
    (("slots", 6), (None,)),
    (("slots", 1, "handles"), ({1: 36}, {1: 22}, {1: 14}, {1: 40}, {1: 1}, {1: TOP}, {1: 0}, {8: 39})),
    (("boxes", 2), (None, box(3, (1,), 1, (2,)), box(3, (), 1))),
    (("boxes", 2, "head"), (0, 1)),
    (("floor", 0), ((1,) + NOUGHTS[1:],)),
    (("floor", 14), (NOUGHTS,)),
    (("floor", 17), (NOUGHTS,)),
    (("floor",), ([NOUGHTS] * 40, [], None)),
    (("turns",), TURNS),
)
STILL = (
    (("turns",), (([(6, 0)], [(5, 7)], [(3, 3)], [(1, 0)], []), ([], [], [], [], [(1, 8), (3, 8), (5, 8), (6, 8)]))),
    (("slots", 1, "rank"), (0, 1, 2)), (("slots", 6, "handles"), ({n: 17 for n in range(1, 8)}, {3: 25})),
    (("floor", 1), ((TOP,) * 16,)), (("boxes", 9), (None,)), (("memory", "frames", 2), ((TOP,) * 16,)),
)


class KernelWrong(unittest.TestCase):
    def test_good(self):
        self.assertIsNone(kept(self, kernel_wrong, small_kernel()))
        for many in (32, 200):
            self.assertIsNone(kernel_wrong(empty_kernel(many)))
        for seed, kernel, plain, tying in worlds(60, 500):
            self.assertIsNone(kept(self, kernel_wrong, kernel), seed)

    def test_bent(self):
        for path, parts in BENT:
            for part in parts:
                told = kept(self, kernel_wrong, changed(small_kernel(), path, part))
                self.assertIsInstance(told, str, (path, part))
                self.assertNotEqual(told, "")

    def test_still_good(self):
        for path, parts in STILL:
            for part in parts:
                self.assertIsNone(kernel_wrong(changed(small_kernel(), path, part)), (path, part))

    def test_tables_of_just_the_living(self):
        for task in range(1, 7):
            kernel = small_kernel()
            table = kernel["memory"]["tables"].pop(task)
            for frame, way in table.values():
                kernel["memory"]["held"][frame] -= 1
            self.assertIsInstance(kernel_wrong(kernel), str, task)

    def test_other_things(self):
        for thing in NO_STATES:
            self.assertIsInstance(kernel_wrong(thing), str, thing)
            for key in ("memory", "slots", "boxes", "floor", "turns"):
                self.assertIsInstance(kernel_wrong({**small_kernel(), key: thing}), str, (key, thing))

    def test_parts_of_other_kinds(self):
        small = small_kernel()
        # The floor's blocks and frames are bent in tests of their own.
        for key in ("slots", "boxes", "turns"):
            still = [changed(small, ("boxes", 9), None)]
            for part in bends(small[key]):
                thing = {**small, key: part}
                self.assertEqual(kernel_wrong(thing) is None, thing in still, part)
        for thing in bends({**empty_kernel(32), "floor": 0, "memory": 0}):
            self.assertIsInstance(kernel_wrong(thing), str)


def row_kernel(row, regs, at=0):
    """Task 3's next row is this one, on a page of its own; 16 is parted with 9, 32 lent and held by 9, 48 parted alone."""
    code = NOUGHTS[:at % 16] + (coded(row),) + NOUGHTS[at % 16 + 1:]
    numbers = tuple(range(100, 116))
    memory = {
        "frames": [NOUGHTS, code, numbers, (7,) * 16, (8,) * 16, (TOP,) * 16], "held": [0, 1, 2, 2, 1, 0],
        "tables": {3: {at // 16: (1, "own"), 1001: (2, "parted"), 1002: (3, "lent"), 1003: (4, "parted")},
                   9: {0: (2, "parted"), 5: (3, "lent")}},
        "lent": {7: 3},
    }
    slots = slots_of({3: slot(regs=regs, row=at, rung=True, handler=77), 9: slot(regs=[5] * 8)})
    return {**empty_kernel(), "memory": memory, "slots": slots, "turns": ([], [(3, 0), (9, 0)], [], [], [])}


def behind(kernel, **news):
    return changed(kernel, ("slots", 3), {**kernel["slots"][3], **news})


def regs(*words):
    return list(words) + [0] * (8 - len(words))


ROWS = (
    (("put", 7, 65535), regs(), [0] * 7 + [65535]), (("high", 1, 2), regs(0, 65536 + 5), regs(0, 131072 + 5)),
    (("copy", 2, 1), regs(0, TOP), regs(0, TOP, TOP)), (("add", 0, 1, 2), regs(9, TOP, 1), regs(0, TOP, 1)),
    (("less", 0, 1, 2), regs(9, 0, 1), regs(TOP, 0, 1)), (("times", 0, 1, 1), regs(9, TOP), regs(1, TOP)),
    (("cut", 0, 1, 2), regs(9, TOP, 2), regs(2 ** 31 - 1, TOP, 2)), (("rest", 0, 1, 2), regs(9, TOP, 16), regs(15, TOP, 16)),
    (("under", 0, 1, 2), regs(9, 3, 4), regs(1, 3, 4)), (("same", 0, 1, 2), regs(9, 4, 3), regs(0, 4, 3)),
    (("load", 0, 1, 3), regs(9, 1001 * 16), regs(103, 1001 * 16)), (("load", 0, 1, 3), regs(9, 1002 * 16), regs(7, 1002 * 16)),
    (("load", 0, 1, 3), regs(9, 1003 * 16), regs(8, 1003 * 16)),
)
FAULTS = (
    (("cut", 0, 1, 2), regs(9, 5), "cut"), (("rest", 0, 1, 2), regs(9, 5), "cut"), (("load", 0, 1, 0), regs(0, TOP), "page"),
    (("store", 0, 1, 0), regs(0, 1004 * 16), "page"), (("store", 0, 1, 1), regs(0, 1001 * 16 - 2), "page"),
)


class KernelRow(unittest.TestCase):
    def row(self, kernel, task=3):
        self.assertIsNone(kernel_wrong(kernel))
        told = kept(self, kernel_row, kernel, task)
        self.assertIsNone(kernel_wrong(told[0]))
        return told

    def test_rows(self):
        for row, ahead, after in ROWS:
            for at in (0, 15, 4095 * 16 + 15):
                kernel = row_kernel(row, ahead, at)
                self.assertEqual(self.row(kernel), (behind(kernel, regs=after, row=at + 1), ("row",)), row)

    def test_leaps(self):
        for row, ahead, after in ((("jump", 65535), regs(), 65535), (("if", 1, 9), regs(0, 5), 9), (("if", 1, 9), regs(5), 1)):
            kernel = row_kernel(row, ahead)
            self.assertEqual(self.row(kernel), (behind(kernel, row=after), ("row",)), row)

    def test_store_into_an_own_page(self):
        kernel = row_kernel(("store", 2, 1, 15), regs(0, 0, 44))
        wanted = changed(kernel, ("memory", "frames", 1), (coded(("store", 2, 1, 15)),) + NOUGHTS[2:] + (44,))
        self.assertEqual(self.row(kernel), (behind(wanted, row=1), ("row",)))

    def test_store_into_a_parted_page(self):
        kernel = row_kernel(("store", 2, 1, 0), regs(0, 1001 * 16, 44))
        told, what = self.row(kernel)
        self.assertEqual(what, ("row",))
        memory = told["memory"]
        self.assertEqual((memory["frames"][0], memory["frames"][2]), ((44,) + tuple(range(101, 116)), tuple(range(100, 116))))
        self.assertEqual((memory["tables"][3][1001], memory["tables"][9][0]), ((0, "own"), (2, "parted")))
        self.assertEqual(memory["held"], [1, 1, 1, 2, 1, 0])
        kernel = row_kernel(("store", 2, 1, 0), regs(0, 1003 * 16, 44))
        wanted = changed(changed(kernel, ("memory", "frames", 4), (44,) + (8,) * 15), ("memory", "tables", 3, 1003), (4, "own"))
        self.assertEqual(self.row(kernel), (behind(wanted, row=1), ("row",)))

    def test_store_into_a_lent_page(self):
        kernel = row_kernel(("store", 2, 1, 1), regs(0, 1002 * 16, 44))
        wanted = changed(kernel, ("memory", "frames", 3), (7, 44) + (7,) * 14)
        self.assertEqual(self.row(kernel), (behind(wanted, row=1), ("row",)))

    def test_call(self):
        kernel = row_kernel(("call",), regs(1, 2, 3, TOP, 5))
        self.assertEqual(self.row(kernel), (behind(kernel, row=1), ("call", 1, 2, 3, TOP)))

    def test_faults(self):
        for row, ahead, word in FAULTS:
            kernel = row_kernel(row, ahead, 5)
            self.assertEqual(self.row(kernel), (row_kernel(row, ahead, 5), ("fault", word)), row)
        for at, word in ((16, "page"), (TOP, "page"), (4096 * 16, "page"), (1001 * 16, "row"), (1003 * 16, "row")):
            kernel = behind(row_kernel(("call",), regs()), row=at)
            told = self.row(kernel)
            self.assertEqual(told[1], ("fault", word) if word == "page" else ("row",))
        kernel = changed(behind(row_kernel(("call",), regs()), row=1002 * 16), ("memory", "frames", 3), (TOP,) * 16)
        self.assertEqual(self.row(kernel), (kernel, ("fault", "code")))

    def test_of_what_is_no_ready_task(self):
        kernel = small_kernel()
        for thing in (0, 2, 4, 7, 8, 15, 16, -1, TOP, None, True, False, "1", 1.0, [], [1], (), (1,), {}, {1: 1}, slot(), set()):
            with self.assertRaises(NoTask, msg=thing):
                kept(self, kernel_row, kernel, thing)

    def test_against_the_plain_machine(self):
        rows = {}
        for seed, kernel, plain, tying in worlds(120, 2000):
            chance = random.Random(seed)
            for task in ready_ones(plain):
                for turn in range(6):
                    told, what = self.row(kernel, task)
                    wanted, plainly = plain_row(plain, task)
                    self.assertEqual(what, plainly)
                    self.assertEqual(seen_of_kernel(told), seen_of_plain(wanted, tying), (seed, task))
                    rows[what[0]] = rows.get(what[0], 0) + 1
                    kernel, plain = told, wanted
                    at = chance.choice((0, 3, 16, 40, 4095 * 16)) if what[0] == "fault" else plain["tasks"][task]["row"]
                    kernel = changed(kernel, ("slots", task, "row"), at)
                    plain = changed(plain, ("tasks", task, "row"), at)
        self.assertGreater(min(rows["row"], rows["fault"], rows["call"]), 50)


if __name__ == "__main__":
    unittest.main()
