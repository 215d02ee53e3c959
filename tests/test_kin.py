"""Promises 9.1 and 9.2, with calls 1 and 2 and 4.6: the kernel's slots, children, parting, ending, waiting."""

import unittest

from bending import NO_STATES, bends, changed, kept
from kernelworlds import worlds
from slotworlds import NONE, TOP, slot, slots_of, with_slot
from underfloor.kin import children, ended, parted, slots_wrong, waited

SAVED = ([9] * 8, TOP)


def family():
    """1 has 9, 4 and 2 (ended); 4 has 7 and waits for it; 15 has 3 (ended), 5 and 8 (ended); 6 is alone."""
    return slots_of({
        1: slot(first=9, rank=3, regs=[1, 2, 3, 4, 5, 6, 7, TOP], row=TOP, handler=5, rung=True, saved=SAVED,
                handles={1: 1, 7: 16, 3: 16}),
        9: slot(parent=1, sibling=2, rank=0), 2: slot(parent=1, sibling=4, waits=("ended", 77), handler=3),
        4: slot(parent=1, first=7, waits=("child",)), 7: slot(parent=4, waits=("take", 15)),
        15: slot(first=5), 5: slot(parent=15, sibling=3, waits=("send", 1), word=TOP), 3: slot(parent=15, sibling=8, waits=("ended", 0)),
        8: slot(parent=15, waits=("ended", TOP)), 6: slot(next=15, word=3),
    })


BENT = (
    ((0,), (slot(), 0, False)),
    ((10,), (slot(parent=11), slot(parent=2), slot(parent=10), slot(first=10), slot(sibling=9), slot(parent=1), slot(first=9),
             slot(waits=("ended", 0)), slot(waits=("child",)), {}, 0)),
    ((6, "parent"), (1, 2, 6, 15, 10, 16, -1)),
    ((6, "rank"), (-1, 4)),
    ((6, "regs"), ([0] * 7, [0] * 9, [0] * 7 + [TOP + 1], [0] * 7 + [-1])),
    ((6, "row"), (-1, TOP + 1)),
    ((6, "handler"), (-1, TOP + 1)),
    ((6, "handles"), ({0: 1}, {8: 1}, {1: 0}, {1: -1}, {1: "1"}, {1: None})),
    ((6, "saved"), (([0] * 7, 0), ([0] * 8, -1), ([0] * 8, TOP + 1), ([0] * 8,), ((0,) * 8, 0), ())),
    ((6, "word"), (-1, TOP + 1)),
    ((6, "next"), (-1, 16)),
    ((6, "first"), (-1, 16, 1, 6, 7, 10, 9)),
    ((6, "sibling"), (-1, 16, 1, 6, 9, 10)),
    ((6, "waits"), (("child",), ("ended", 0), ("take", 0), ("take", 16), ("send", 0), ("send", 16), ("take",), ("send", 1, 1),
                    ("take", 1, 1), ("child", 1), ("ready",), ("ended",), ())),
    ((2, "waits"), (("ended", -1), ("ended", TOP + 1), ("ended", 1, 1))),
    ((2, "parent"), (0, 15, 2)),
    ((2, "handles"), ({1: 1},)),
    ((2, "rung"), (True,)),
    ((2, "saved"), (SAVED,)),
    ((2, "sibling"), (0, 9, 2, 7, 6)),
    ((2, "first"), (7, 2)),
    ((1, "first"), (0, 2, 4, 7, 1, 10)),
    ((1, "waits"), (("child",), ("ended", 0))),
    ((1, "parent"), (1, 9, 4, 7)),
    ((4, "first"), (0, 9)),
    ((4, "sibling"), (9, 2, 4, 7)),
    ((4, "parent"), (0, 15, 2)),
    ((7, "parent"), (0, 1, 7)),
    ((7, "waits"), (("ended", 3),)),
    ((4, "waits"), (("ended", 3),)),
    ((15, "first"), (0, 3, 8)),
    ((8, "sibling"), (5, 3, 8, 1)),
    ((9,), (None,)),
    ((7,), (None,)),
    ((15,), (None,)),
)
STILL = (
    ((6, "waits"), (("take", 3), ("send", 15), None)), ((6, "next"), (0, 6, 15)), ((6, "word"), (0, TOP)),
    ((6, "handles"), ({1: 10 ** 9}, {})), ((7, "waits"), (None,)), ((2, "waits"), (None, ("ended", 0))),
    ((10,), (slot(), None)), ((6,), (None,)), ((6, "saved"), (SAVED,)),
)


class SlotsWrong(unittest.TestCase):
    def wrong(self, slots, why=None):
        told = kept(self, slots_wrong, slots)
        self.assertIsInstance(told, str, why)
        self.assertNotEqual(told, "")

    def test_good(self):
        self.assertIsNone(kept(self, slots_wrong, family()))
        self.assertIsNone(slots_wrong(slots_of({})))
        self.assertIsNone(slots_wrong(slots_of({number: slot() for number in range(1, 16)})))
        line = {number: slot(parent=number - 1, first=number + 1 if number < 15 else 0, waits=("child",)) for number in range(1, 15)}
        self.assertIsNone(slots_wrong(slots_of({**line, 15: slot(parent=14)})))
        for seed, kernel, plain, tying in worlds(40):
            self.assertIsNone(slots_wrong(kernel["slots"]))

    def test_bent(self):
        for path, parts in BENT:
            for part in parts:
                self.wrong(changed(family(), path, part), (path, part))

    def test_still_good(self):
        for path, parts in STILL:
            for part in parts:
                self.assertIsNone(slots_wrong(changed(family(), path, part)), (path, part))

    def test_other_things(self):
        good = family()
        for thing in NO_STATES + (good[:15], good + [None], tuple(good), dict(enumerate(good)), [0] * 16, [[]] * 16, [{}] * 16):
            self.assertIsInstance(slots_wrong(thing), str, thing)

    def test_parts_of_other_kinds(self):
        # 6 is alone: without it the others are still good.
        still = with_none(family(), 6)
        for thing in bends(family()):
            self.assertEqual(slots_wrong(thing) is None, thing == still, thing)

    def test_rings(self):
        self.wrong(slots_of({1: slot(parent=1, first=1)}))
        self.wrong(slots_of({1: slot(parent=2, first=2), 2: slot(parent=1, first=1)}))
        ring = {number: slot(parent=(number + 1) % 15 + 1, first=(number - 3) % 15 + 1) for number in range(1, 16)}
        self.wrong(slots_of(ring))

    def test_chains_that_go_round(self):
        self.wrong(slots_of({1: slot(first=2), 2: slot(parent=1, sibling=3), 3: slot(parent=1, sibling=2)}))
        self.wrong(slots_of({1: slot(first=2), 2: slot(parent=1, sibling=2)}))

    def test_children(self):
        told = [kept(self, children, family(), task) for task in (1, 4, 15, 6, 9)]
        self.assertEqual(told, [[2, 4, 9], [7], [3, 5, 8], [], []])


def with_none(slots, *tasks):
    return [None if number in tasks else own for number, own in enumerate(slots)]


class Deeds(unittest.TestCase):
    def deed(self, call, slots, *parts):
        self.assertIsNone(slots_wrong(slots))
        told = kept(self, call, slots, *parts)
        self.assertIsInstance(told, tuple)
        self.assertIsNone(slots_wrong(told[0]))
        return told

    def test_parted(self):
        told, child = self.deed(parted, family(), 1)
        self.assertEqual(child, 10)
        new = {**family()[1], "parent": 1, "regs": [0, 2, 3, 4, 5, 6, 7, TOP], "rung": False, "first": 0, "sibling": 9}
        wanted = with_slot(family(), 1, first=10)
        self.assertEqual(told, wanted[:10] + [new] + wanted[11:])

    def test_parted_without_children(self):
        told, child = self.deed(parted, slots_of({3: slot(regs=[5] * 8, handles={4: 20})}), 3)
        new = slot(regs=[0] + [5] * 7, handles={4: 20}, parent=3)
        self.assertEqual((told, child), (slots_of({3: slot(regs=[5] * 8, handles={4: 20}, first=1), 1: new}), 1))

    def test_parted_gets_the_least_free_id(self):
        for free in range(2, 16):
            slots = slots_of({number: slot() for number in range(1, 16) if number not in (free, 15)})
            self.assertEqual(self.deed(parted, slots, 1 if free != 1 else 2)[1], free)

    def test_parted_without_a_free_id(self):
        slots = slots_of({number: slot() for number in range(1, 16)})
        self.assertEqual(self.deed(parted, slots, 4), (slots, None))

    def test_waited_without_children(self):
        self.assertEqual(self.deed(waited, family(), 6), (family(), [(6, NONE, None)], []))

    def test_waited_with_children_that_run(self):
        slots = with_slot(family(), 4, waits=None)
        self.assertEqual(self.deed(waited, slots, 4), (family(), [], []))

    def test_waited_with_children_that_ended(self):
        told = self.deed(waited, family(), 1)
        wanted = with_none(with_slot(family(), 9, sibling=4), 2)
        self.assertEqual(told, (wanted, [(1, 2, 77)], [2]))
        told = self.deed(waited, family(), 15)
        wanted = with_none(with_slot(family(), 5, sibling=8), 3)
        self.assertEqual(told, (wanted, [(15, 3, 0)], [3]))
        told = self.deed(waited, told[0], 15)
        self.assertEqual(told, (with_none(with_slot(wanted, 5, sibling=0), 8), [(15, 8, TOP)], [8]))
        told = self.deed(waited, told[0], 15)
        self.assertEqual((told[1], told[2], told[0][15]["waits"]), ([], [], ("child",)))

    def test_waited_for_the_youngest(self):
        slots = slots_of({1: slot(first=3), 3: slot(parent=1, sibling=2, waits=("ended", 4)), 2: slot(parent=1)})
        told = self.deed(waited, slots, 1)
        self.assertEqual(told, (slots_of({1: slot(first=2), 2: slot(parent=1)}), [(1, 3, 4)], [3]))

    def test_ended_without_a_parent(self):
        told = self.deed(ended, family(), 6, 5)
        self.assertEqual(told, (with_none(family(), 6), [], [6]))
        told = self.deed(ended, family(), 15, 5)
        wanted = with_slot(family(), 5, parent=0, sibling=0)
        self.assertEqual(told, (with_none(wanted, 15, 3, 8), [], [3, 8, 15]))
        told = self.deed(ended, family(), 1, 5)
        wanted = with_slot(with_slot(family(), 9, parent=0, sibling=0), 4, parent=0, sibling=0)
        self.assertEqual(told, (with_none(wanted, 1, 2), [], [1, 2]))

    def test_ended_with_a_parent_that_does_not_wait(self):
        slots = with_slot(family(), 9, handles={1: 5}, rung=True, saved=SAVED, regs=[5] * 8, handler=3)
        told = self.deed(ended, slots, 9, TOP)
        wanted = with_slot(slots, 9, handles={}, rung=False, saved=None, waits=("ended", TOP))
        self.assertEqual(told, (wanted, [], []))

    def test_ended_with_a_parent_that_waits(self):
        slots = with_slot(family(), 7, waits=None)
        told = self.deed(ended, slots, 7, 8)
        wanted = with_none(with_slot(slots, 4, waits=None, first=0), 7)
        self.assertEqual(told, (wanted, [(4, 7, 8)], [7]))

    def test_ended_amid_siblings(self):
        slots = slots_of({1: slot(first=4, waits=("child",)), 4: slot(parent=1, sibling=2), 2: slot(parent=1, sibling=3, first=5),
                          3: slot(parent=1), 5: slot(parent=2, waits=("ended", 0), sibling=6), 6: slot(parent=2)})
        told = self.deed(ended, slots, 2, 0)
        wanted = slots_of({1: slot(first=4), 4: slot(parent=1, sibling=3), 3: slot(parent=1), 6: slot()})
        self.assertEqual(told, (wanted, [(1, 2, 0)], [2, 5]))

    def test_ended_with_children_and_a_parent_that_does_not_wait(self):
        slots = slots_of({3: slot(first=2), 2: slot(parent=3, first=1), 1: slot(parent=2, sibling=4),
                          4: slot(parent=2, waits=("ended", 5))})
        told = self.deed(ended, slots, 2, 6)
        wanted = slots_of({3: slot(first=2), 2: slot(parent=3, waits=("ended", 6)), 1: slot()})
        self.assertEqual(told, (wanted, [], [4]))


if __name__ == "__main__":
    unittest.main()
