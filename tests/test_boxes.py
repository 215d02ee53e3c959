"""Promises 8.1 to 8.4, with calls 5, 6 and 7: the kernel's boxes, letters, chains, and the deeds on them."""

import unittest

from bending import NO_STATES, bends, changed, kept
from slotworlds import BAD, TOP, box, boxes_of, slot, slots_of, waiting, with_box, with_slot
from underfloor.boxes import box_made, boxes_wrong, chain_of, letters_of, sent, shut, taken


def world():
    """Box 2 is full, and 4, 9, 3 wait to send; box 5 is empty, and 8, 1 wait to take; 7 waits at 15 alone."""
    some = {
        **waiting(2, "send", 4, 9, 3, words=(70, 0, 72)), **waiting(5, "take", 8, 1), **waiting(15, "send", 7, words=(TOP,)),
        10: slot(first=12), 11: slot(regs=[5] * 8), 12: slot(parent=10, waits=("ended", 5)), 13: slot(waits=("child",), first=14),
        14: slot(parent=13),
    }
    boxes = {
        2: box(2, (5, 6), 7, (4, 9, 3)), 5: box(8, (), 3, (8, 1)), 15: box(8, range(1, 9), 4, (7,)), 6: box(3, (9,), 6),
        1: box(1),
    }
    return slots_of(some), boxes_of(boxes)


# Each path leads to a part of (slots, boxes); with any of the parts behind it they are good no more.
BENT = (
    ((1, 2, "room"), (0, 1, 3, 9, -1, TOP)),
    ((1, 6, "room"), (0, 9)),
    ((1, 6, "start"), (8, -1, TOP)),
    ((1, 6, "many"), (-1, 0, 4, 9)),
    ((1, 6, "places"), ([0] * 7, [0] * 9, [], [0] * 6 + [9, 1], [1] + [0] * 5 + [9, 0], [0] * 6 + [TOP + 1, 0],
                        [0] * 6 + [-1, 0])),
    ((1, 1, "room"), (0, 9, -1)),
    ((1, 1, "start"), (8, 9, -1, TOP)),
    ((1, 1, "many"), (-1, 2)),
    ((0, 4, "word"), (-1, TOP + 1, None, "5", True)),
    ((0, 4, "next"), (16, -1, None, "9", True)),
    ((1, 6, "head"), (1, 4, 6, 10, 11, 15, 16, -1)),
    ((1, 6, "tail"), (1, 4, 11, 16, -1)),
    ((1, 2, "head"), (0, 9, 3, 8, 16, 5, 10)),
    ((1, 2, "tail"), (0, 9, 4, 8, 16)),
    ((1, 2, "many"), (0, 1, 3)),
    ((1, 5, "head"), (0, 1, 4)),
    ((1, 5, "tail"), (0, 8)),
    ((1, 15, "room"), (7, 9)),
    ((1, 0), (box(), 0, False)),
    ((1, 2), (None,)),
    ((1, 3), (box(chain=(11,)), {}, 0)),
    ((1, 5), (box(8, (1,), 3, (8, 1)), None)),
    ((0, 4, "next"), (0, 3, 4, 11, 8, 5)),
    ((0, 9, "next"), (0, 9, 4)),
    ((0, 3, "next"), (4, 9, 3, 1, 11)),
    ((0, 1, "next"), (8, 3, 11)),
    ((0, 11, "next"), (1, 4, 12)),
    ((0, 12, "next"), (1,)),
    ((0, 13, "next"), (14,)),
    ((0, 11, "word"), (1, TOP)),
    ((0, 12, "word"), (1,)),
    ((0, 13, "word"), (1,)),
    ((0, 8, "word"), (1,)),
    ((0, 4, "waits"), (None, ("take", 2), ("send", 15), ("send", 6), ("send", 3), ("child",))),
    ((0, 11, "waits"), (("send", 2), ("take", 5), ("send", 3), ("take", 1), ("take", 15))),
    ((0, 8, "waits"), (None, ("send", 5), ("take", 1))),
)
STILL = (
    ((0, 4, "word"), (0, TOP)), ((1, 6, "many"), (2,)), ((1, 6, "room"), (1, 8)), ((1, 1, "start"), range(8)),
    ((1, 6, "places", 6), (0, TOP)), ((1, 7), (box(4, (1, 2, 3, 4), 5), None)),
)


class Letters(unittest.TestCase):
    def test_letters_of(self):
        for start in range(8):
            for many in range(9):
                letters = [100 + place for place in range(many)]
                self.assertEqual(kept(self, letters_of, box(8, letters, start)), letters)

    def test_chain_of(self):
        slots, boxes = world()
        told = [kept(self, chain_of, slots, boxes[number]) for number in (1, 2, 5, 6, 15)]
        self.assertEqual(told, [[], [4, 9, 3], [8, 1], [], [7]])


class BoxesWrong(unittest.TestCase):
    def test_good(self):
        slots, boxes = world()
        self.assertIsNone(kept(self, boxes_wrong, slots, boxes))
        self.assertIsNone(boxes_wrong(slots_of({}), boxes_of({})))
        self.assertIsNone(boxes_wrong(slots_of({}), boxes_of({number: box() for number in range(1, 16)})))
        chain = tuple(range(15, 0, -1))
        some = slots_of(waiting(9, "send", *chain, words=chain))
        self.assertIsNone(boxes_wrong(some, boxes_of({9: box(1, (5,), 7, chain)})))

    def test_bent(self):
        for path, parts in BENT:
            for part in parts:
                slots, boxes = changed(world(), path, part)
                told = kept(self, boxes_wrong, slots, boxes)
                self.assertIsInstance(told, str, (path, part))
                self.assertNotEqual(told, "")

    def test_still_good(self):
        for path, parts in STILL:
            for part in parts:
                self.assertIsNone(boxes_wrong(*changed(world(), path, part)), (path, part))

    def test_anything_as_boxes(self):
        slots, boxes = world()
        for thing in NO_STATES + (boxes[:15], boxes + [None], tuple(boxes), [0] * 16, dict(enumerate(boxes)), [[]] * 16):
            self.assertIsInstance(boxes_wrong(slots, thing), str, thing)
            self.assertIsInstance(boxes_wrong(slots_of({}), thing), str, thing)

    def test_parts_of_other_kinds(self):
        slots, boxes = world()
        # At boxes 1 and 6 nobody waits: they may be gone.
        still = (with_box(boxes, 1, None), with_box(boxes, 6, None))
        for thing in bends(boxes):
            self.assertEqual(boxes_wrong(slots, thing) is None, thing in still, thing)

    def test_takers_and_senders_in_one_chain(self):
        some = {1: slot(waits=("take", 1), next=2), 2: slot(waits=("send", 1), word=5)}
        for letters in ((), (1,)):
            self.assertIsInstance(boxes_wrong(slots_of(some), boxes_of({1: box(1, letters, 0, (1, 2))})), str)

    def test_one_in_two_chains(self):
        some = waiting(1, "take", 1, 2)
        boxes = boxes_of({1: box(1, (), 0, (1, 2)), 2: box(1, (), 0, (2,))})
        self.assertIsInstance(boxes_wrong(slots_of(some), boxes), str)

    def test_rings(self):
        some = {1: slot(waits=("take", 1), next=2), 2: slot(waits=("take", 1), next=1)}
        for tail in (1, 2):
            boxes = boxes_of({1: {**box(1, (), 0, (1, 2)), "tail": tail}})
            self.assertIsInstance(boxes_wrong(slots_of(some), boxes), str)


class BoxMade(unittest.TestCase):
    def test_made(self):
        for taken_ones, free in (((), 1), ((1, 2, 4), 3), (range(1, 15), 15), (range(2, 16), 1)):
            for room in (1, 8):
                boxes = boxes_of({number: box(2, (5,)) for number in taken_ones})
                told = kept(self, box_made, boxes, room)
                self.assertEqual(told, (with_box(boxes, free, box(room)), free))

    def test_no_free_number(self):
        boxes = boxes_of({number: box(2, (5,)) for number in range(1, 16)})
        self.assertEqual(kept(self, box_made, boxes, 3), (boxes, None))


class Deeds(unittest.TestCase):
    def deed(self, call, slots, boxes, *parts):
        self.assertIsNone(boxes_wrong(slots, boxes))
        told = kept(self, call, slots, boxes, *parts)
        self.assertIsInstance(told, tuple)
        self.assertIsNone(boxes_wrong(told[0], told[1]))
        return told

    def test_boxes_that_are_not_there(self):
        slots, boxes = world()
        for number in (0, 3, 4, 14, 16, 17, TOP):
            self.assertEqual(self.deed(sent, slots, boxes, 11, number, 5), (slots, boxes, [(11, BAD, None)]))
            self.assertEqual(self.deed(taken, slots, boxes, 11, number), (slots, boxes, [(11, BAD, None)]))
            self.assertEqual(self.deed(shut, slots, boxes, 11, number), (slots, boxes, [(11, BAD, None)]))

    def test_sent_into_room(self):
        slots, boxes = world()
        told = self.deed(sent, slots, boxes, 11, 6, 8)
        self.assertEqual(told, (slots, with_box(boxes, 6, box(3, (9, 8), 6)), [(11, 0, None)]))
        told = self.deed(sent, *told[:2], 11, 6, 7)
        self.assertEqual(told[1], with_box(boxes, 6, box(3, (9, 8, 7), 6)))
        self.assertEqual(told[1][6]["places"], [7, 0, 0, 0, 0, 0, 9, 8])
        told = self.deed(sent, slots, boxes, 11, 1, 0)
        self.assertEqual(told[1], with_box(boxes, 1, box(1, (0,))))

    def test_sent_into_a_full_box(self):
        slots, boxes = world()
        told = self.deed(sent, slots, boxes, 11, 2, TOP)
        wanted = with_slot(with_slot(slots, 11, waits=("send", 2), word=TOP), 3, next=11)
        self.assertEqual(told, (wanted, with_box(boxes, 2, box(2, (5, 6), 7, (4, 9, 3, 11))), []))

    def test_sent_into_a_full_box_where_nobody_waits(self):
        slots = slots_of({3: slot(), 4: slot()})
        boxes = boxes_of({2: box(1, (9,), 5)})
        told = self.deed(sent, slots, boxes, 3, 2, 0)
        self.assertEqual(told, (with_slot(slots, 3, waits=("send", 2)), boxes_of({2: box(1, (9,), 5, (3,))}), []))
        told = self.deed(sent, *told[:2], 4, 2, 7)
        self.assertEqual(chain_of(told[0], told[1][2]), [3, 4])

    def test_sent_where_tasks_wait_to_take(self):
        slots, boxes = world()
        told = self.deed(sent, slots, boxes, 11, 5, 33)
        wanted = with_slot(slots, 8, waits=None, next=0)
        self.assertEqual(told, (wanted, with_box(boxes, 5, box(8, (), 3, (1,))), [(11, 0, None), (8, 0, 33)]))
        told = self.deed(sent, *told[:2], 11, 5, 0)
        wanted = with_slot(wanted, 1, waits=None)
        self.assertEqual(told, (wanted, with_box(boxes, 5, box(8, (), 3)), [(11, 0, None), (1, 0, 0)]))
        told = self.deed(sent, *told[:2], 11, 5, 34)
        self.assertEqual(told, (wanted, with_box(boxes, 5, box(8, (34,), 3)), [(11, 0, None)]))

    def test_taken_where_nobody_waits(self):
        slots, boxes = world()
        told = self.deed(taken, slots, boxes, 11, 6)
        self.assertEqual(told, (slots, with_box(boxes, 6, box(3, (), 7)), [(11, 0, 9)]))
        boxes = boxes_of({3: box(8, range(50, 58), 7)})
        told = self.deed(taken, slots_of({1: slot()}), boxes, 1, 3)
        self.assertEqual(told, (slots_of({1: slot()}), boxes_of({3: box(8, range(51, 58), 0)}), [(1, 0, 50)]))

    def test_taken_from_an_empty_box(self):
        slots, boxes = world()
        told = self.deed(taken, slots, boxes, 11, 5)
        wanted = with_slot(with_slot(slots, 11, waits=("take", 5)), 1, next=11)
        self.assertEqual(told, (wanted, with_box(boxes, 5, box(8, (), 3, (8, 1, 11))), []))
        told = self.deed(taken, slots, boxes, 11, 1)
        self.assertEqual(told, (with_slot(slots, 11, waits=("take", 1)), with_box(boxes, 1, box(1, (), 0, (11,))), []))

    def test_taken_where_tasks_wait_to_send(self):
        slots, boxes = world()
        told = self.deed(taken, slots, boxes, 11, 2)
        wanted = with_slot(slots, 4, waits=None, next=0, word=0)
        self.assertEqual(told, (wanted, with_box(boxes, 2, box(2, (6, 70), 0, (9, 3))), [(11, 0, 5), (4, 0, None)]))
        told = self.deed(taken, *told[:2], 11, 2)
        wanted = with_slot(wanted, 9, waits=None, next=0, word=0)
        self.assertEqual(told, (wanted, with_box(boxes, 2, box(2, (70, 0), 1, (3,))), [(11, 0, 6), (9, 0, None)]))
        told = self.deed(taken, *told[:2], 11, 2)
        wanted = with_slot(wanted, 3, waits=None, next=0, word=0)
        self.assertEqual(told, (wanted, with_box(boxes, 2, box(2, (0, 72), 2)), [(11, 0, 70), (3, 0, None)]))
        told = self.deed(taken, slots, boxes, 11, 15)
        self.assertEqual(told[1], with_box(boxes, 15, box(8, (2, 3, 4, 5, 6, 7, 8, TOP), 5)))

    def test_shut(self):
        slots, boxes = world()
        freed = slots
        for task in (4, 9, 3):
            freed = with_slot(freed, task, waits=None, next=0, word=0)
        answers = [(11, 0, None), (4, BAD, None), (9, BAD, None), (3, BAD, None)]
        self.assertEqual(self.deed(shut, slots, boxes, 11, 2), (freed, with_box(boxes, 2, None), answers))
        freed = with_slot(with_slot(slots, 8, waits=None, next=0), 1, waits=None)
        answers = [(11, 0, None), (8, BAD, None), (1, BAD, None)]
        self.assertEqual(self.deed(shut, slots, boxes, 11, 5), (freed, with_box(boxes, 5, None), answers))
        self.assertEqual(self.deed(shut, slots, boxes, 11, 6), (slots, with_box(boxes, 6, None), [(11, 0, None)]))

    def test_letters_go_round(self):
        slots, boxes = slots_of({1: slot()}), boxes_of({1: box(3)})
        sent_words, got = [], []
        for turn in range(40):
            for step in range(turn % 3 + 1):
                slots, boxes, answers = self.deed(sent, slots, boxes, 1, 1, 1000 * turn + step)
                sent_words.append(1000 * turn + step)
            for step in range(turn % 3 + 1):
                slots, boxes, answers = self.deed(taken, slots, boxes, 1, 1)
                got.append(answers[0][2])
        self.assertEqual(got, sent_words)


if __name__ == "__main__":
    unittest.main()
