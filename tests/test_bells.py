"""Promises 8.4 and 4.8 on slots, with calls 9 and 10: bells, handlers entered and left."""

import unittest

from bending import kept
from slotworlds import BAD, BELL, TOP, box, boxes_of, slot, slots_of, waiting, with_box, with_slot
from test_boxes import world
from underfloor.bells import entered, left, rung
from underfloor.boxes import boxes_wrong, chain_of

SAVED = ([9] * 8, 77)


class Rung(unittest.TestCase):
    def rung(self, slots, boxes, task, other):
        self.assertIsNone(boxes_wrong(slots, boxes))
        told = kept(self, rung, slots, boxes, task, other)
        self.assertIsInstance(told, tuple)
        self.assertIsNone(boxes_wrong(told[0], told[1]))
        self.assertEqual(rung(slots, boxes, 0, other), (told[0], told[1], told[2][1:]))
        return told

    def test_who_can_not_be_rung(self):
        slots, boxes = world()
        for other in (0, 2, 5, 12, 15, 16, 99, TOP):
            self.assertEqual(self.rung(slots, boxes, 11, other), (slots, boxes, [(11, BAD, None)]))

    def test_without_a_handler_or_in_it(self):
        slots, boxes = world()
        for other in (1, 3, 4, 7, 8, 9, 10, 13, 14):
            told = self.rung(slots, boxes, 11, other)
            self.assertEqual(told, (with_slot(slots, other, rung=True), boxes, [(11, 0, None)]))
            within = with_slot(slots, other, handler=5, saved=SAVED)
            told = self.rung(within, boxes, 11, other)
            self.assertEqual(told, (with_slot(within, other, rung=True), boxes, [(11, 0, None)]))

    def test_ready(self):
        slots, boxes = world()
        for other in (10, 11, 14):
            able = with_slot(slots, other, handler=5)
            self.assertEqual(self.rung(able, boxes, 11, other), (with_slot(able, other, rung=True), boxes, [(11, 0, None)]))

    def test_out_of_a_chain(self):
        for number, chain, start in ((2, [4, 9, 3], box(2, (5, 6), 7)), (5, [8, 1], box(8, (), 3)),
                                     (15, [7], box(8, range(1, 9), 4))):
            for other in chain:
                slots, boxes = world()
                slots = with_slot(slots, other, handler=TOP)
                told = self.rung(slots, boxes, 11, other)
                others = [task for task in chain if task != other]
                self.assertEqual(told[2], [(11, 0, None), (other, BELL, None)])
                self.assertEqual(chain_of(told[0], told[1][number]), others)
                ends = {"head": others[0], "tail": others[-1]} if others else {}
                self.assertEqual(told[1], with_box(boxes, number, {**start, **ends}))
                wanted = with_slot(slots, other, rung=True, waits=None, next=0, word=0)
                for place, task in enumerate(others):
                    wanted = with_slot(wanted, task, next=(others + [0])[place + 1])
                self.assertEqual(told[0], wanted)

    def test_out_of_a_wait_for_children(self):
        slots, boxes = world()
        slots = with_slot(slots, 13, handler=1, rung=True)
        told = self.rung(slots, boxes, 14, 13)
        self.assertEqual(told, (with_slot(slots, 13, waits=None), boxes, [(14, 0, None), (13, BELL, None)]))

    def test_two_out_of_the_midst(self):
        slots = slots_of({**waiting(1, "take", 2, 3, 4, 5, 6), 1: slot()})
        for task in (2, 3, 4, 5, 6):
            slots = with_slot(slots, task, handler=8)
        boxes = boxes_of({1: box(1, (), 0, (2, 3, 4, 5, 6))})
        left_over = [2, 3, 4, 5, 6]
        for other in (4, 3, 6, 2, 5):
            slots, boxes, answers = self.rung(slots, boxes, 1, other)
            left_over.remove(other)
            self.assertEqual(chain_of(slots, boxes[1]), left_over)
        self.assertEqual(boxes, boxes_of({1: box(1)}))


class Handlers(unittest.TestCase):
    def test_entered(self):
        own = slot(regs=[4] * 8, row=TOP, handler=6, rung=True)
        slots = slots_of({3: own, 4: own})
        told = kept(self, entered, slots, 3)
        self.assertEqual(told, with_slot(slots, 3, saved=([4] * 8, TOP), row=6, rung=False))
        self.assertEqual(kept(self, entered, told, 3), told)

    def test_not_entered(self):
        for news in ({}, {"handler": 5}, {"rung": True}, {"rung": True, "handler": 5, "saved": SAVED},
                     {"rung": True, "handler": 5, "waits": ("child",)}):
            slots = slots_of({3: slot(row=9, **news)})
            self.assertEqual(kept(self, entered, slots, 3), slots, news)

    def test_left(self):
        slots = slots_of({3: slot(regs=[4] * 8, row=8, handler=6, rung=True, saved=SAVED), 4: slot(saved=SAVED)})
        self.assertEqual(kept(self, left, slots, 3), with_slot(slots, 3, regs=[9] * 8, row=77, saved=None))

    def test_left_out_of_no_handler(self):
        for news in ({}, {"rung": True, "handler": 4}):
            self.assertIsNone(kept(self, left, slots_of({3: slot(**news), 4: slot(saved=SAVED)}), 3))


if __name__ == "__main__":
    unittest.main()
