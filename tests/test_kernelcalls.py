"""Promise 11.2, with 4.5 to 4.9: the kernel's calls, ends and bells, turns behind them, lacks, heads that came or went."""

import random
import unittest

from bending import changed, kept
from floorworlds import NOUGHTS, TOP, floor_from, small_floor, small_tree
from kernelworlds import carried_on, random_call, ready_ones, seen_of_kernel, seen_of_plain, seen_tree, worlds
from slotworlds import BAD, BELL, HELD, LACK, NONE, box, boxes_of, slot, slots_of, waiting
from test_kernels import empty_kernel, small_kernel
from underfloor.errors import NoTask
from underfloor.floors import written
from underfloor.frames import free_frames, new_memory, promised
from underfloor.journals import sealed
from underfloor.kernelcalls import kernel_call, kernel_end, kernel_ring
from underfloor.kernels import kernel_wrong
from underfloor.maps import free_blocks
from underfloor.plaincalls import plain_call, plain_end, rung_plain

OWN = [11, 12, 13, 14, 15, 16, 17, 18]


def told_regs(answer, second=12):
    return [answer, second] + OWN[2:]


def kernel_with(some, boxes=None, turns=None, **parts):
    """A kernel whose ready tasks stand in the lists of their ranks, in rising order; each living one has a table."""
    lists = ([], [], [], [], [])
    for number, own in sorted(some.items()):
        if own["waits"] is None:
            lists[own["rank"]].append((number, 3))
    living = [number for number, own in some.items() if own["waits"] is None or own["waits"][0] != "ended"]
    memory = {**new_memory(8), "tables": {number: {} for number in living}}
    kernel = {**empty_kernel(), "memory": memory, "slots": slots_of(some), "boxes": boxes_of(boxes or {}), "turns": lists}
    if turns is not None:
        kernel["turns"] = turns
    kernel.update(parts)
    return kernel


def with_slot(kernel, number, **news):
    return changed(kernel, ("slots", number), {**kernel["slots"][number], **news})


class Calls(unittest.TestCase):
    def call(self, kernel, number, a=0, b=0, c=0, who=1):
        self.assertIsNone(kernel_wrong(kernel))
        told = kept(self, kernel_call, kernel, who, number, a, b, c)
        self.assertIsInstance(told, tuple)
        self.assertIsNone(kernel_wrong(told[0]))
        return told

    def tells(self, kernel, parts, answer, second=12, lacked=False):
        """Nothing but the answer changes."""
        told = self.call(kernel, *parts)
        self.assertEqual(told, (with_slot(kernel, 1, regs=told_regs(answer, second)), lacked, None), parts)


class Tasks(Calls):
    def test_numbers_that_are_none(self):
        for number in (25, 26, 99, 2 ** 20, TOP):
            self.tells(kernel_with({1: slot(regs=OWN)}), (number, 1, 1, 1), BAD)

    def test_part(self):
        kernel = kernel_with({1: slot(regs=OWN, rank=2, rung=True, handler=4, saved=([1] * 8, 5)), 2: slot(rank=2)})
        told, lacked, came = self.call(kernel, 1)
        self.assertEqual((lacked, came), (False, None))
        self.assertEqual(told["turns"], ([], [], [(1, 3), (2, 3), (3, 0)], [], []))
        self.assertEqual(told["slots"][1], {**kernel["slots"][1], "regs": told_regs(3), "first": 3})
        self.assertEqual(told["slots"][3], {**kernel["slots"][1], "regs": told_regs(0), "parent": 1, "rung": False})
        self.assertEqual(told["memory"]["tables"], {1: {}, 2: {}, 3: {}})

    def paged(self, many, used, slots=1):
        """So many frames; task 1 has as many own pages as used; so many tasks are there."""
        some = {number: slot(regs=OWN) for number in range(1, slots + 1)}
        kernel = kernel_with(some)
        memory = {**new_memory(many), "held": [1] * used + [0] * (many - used)}
        memory["tables"] = {number: {} for number in some}
        memory["tables"][1] = {page: (page, "own") for page in range(used)}
        return {**kernel, "memory": memory}

    def test_part_lacks(self):
        for many, used in ((4, 2), (8, 4), (5, 2), (4, 0)):
            told, lacked, came = self.call(self.paged(many, used), 1)
            self.assertEqual((lacked, told["slots"][1]["regs"]), (False, told_regs(2)))
        for many, used in ((4, 3), (5, 3), (4, 4), (64, 33)):
            self.tells(self.paged(many, used), (1,), LACK, lacked=True)

    def test_part_without_a_free_id(self):
        self.tells(self.paged(8, 1, 15), (1,), LACK, lacked=False)
        self.tells(self.paged(4, 4, 15), (1,), LACK, lacked=False)

    def test_wait(self):
        self.tells(kernel_with({1: slot(regs=OWN)}), (2,), NONE)
        kernel = kernel_with({1: slot(regs=OWN, first=2), 2: slot(parent=1)})
        told = self.call(kernel, 2)
        wanted = with_slot(kernel, 1, waits=("child",))
        self.assertEqual(told, ({**wanted, "turns": ([], [(2, 3)], [], [], [])}, False, None))
        kernel = kernel_with({1: slot(regs=OWN, first=2), 2: slot(parent=1, sibling=3), 3: slot(parent=1, waits=("ended", 9))})
        wanted = changed(with_slot(with_slot(kernel, 1, regs=told_regs(3, 9)), 2, sibling=0), ("slots", 3), None)
        self.assertEqual(self.call(kernel, 2), (wanted, False, None))

    def test_rank(self):
        turns = ([(5, 1)], [(1, 6), (2, 0)], [], [(4, 4)], [(3, 8)])
        kernel = kernel_with({1: slot(regs=OWN), 2: slot(), 3: slot(), 4: slot(rank=3), 5: slot(rank=0)}, turns=turns)
        wanted = {0: ([(5, 1), (1, 0)], [(2, 0)], [], [(4, 4)], [(3, 8)]), 1: turns,
                  2: ([(5, 1)], [(2, 0)], [(1, 0)], [(4, 4)], [(3, 8)]), 3: ([(5, 1)], [(2, 0)], [], [(4, 4), (1, 0)], [(3, 8)])}
        for rank, lists in wanted.items():
            told = self.call(kernel, 3, rank)
            self.assertEqual(told, ({**with_slot(kernel, 1, regs=told_regs(0), rank=rank), "turns": lists}, False, None))
        for rank in (4, TOP):
            self.tells(kernel, (3, rank), BAD)

    def test_rank_out_of_the_fifth_list(self):
        turns = ([], [], [], [], [(1, 8), (2, 8)])
        kernel = kernel_with({1: slot(regs=OWN), 2: slot()}, turns=turns)
        self.assertEqual(self.call(kernel, 3, 1)[0]["turns"], turns)
        self.assertEqual(self.call(kernel, 3, 0)[0]["turns"], ([(1, 0)], [], [], [], [(2, 8)]))

    def test_handler_and_back(self):
        kernel = kernel_with({1: slot(regs=OWN, row=4, saved=([3] * 8, TOP))})
        told = self.call(kernel, 8, TOP)
        self.assertEqual(told, (with_slot(kernel, 1, regs=told_regs(0), handler=TOP), False, None))
        self.assertEqual(self.call(kernel, 10), (with_slot(kernel, 1, regs=[3] * 8, row=TOP, saved=None), False, None))
        self.tells(kernel_with({1: slot(regs=OWN)}), (10,), BAD)


class Boxes(Calls):
    def test_box(self):
        kernel = kernel_with({1: slot(regs=OWN)}, {1: box(), 3: box()})
        told = self.call(kernel, 4, 8)
        self.assertEqual(told, (with_slot(changed(kernel, ("boxes", 2), box(8)), 1, regs=told_regs(2)), False, None))
        full = kernel_with({1: slot(regs=OWN)}, {number: box() for number in range(1, 16)})
        for room in (0, 9, TOP):
            self.tells(kernel, (4, room), BAD)
            self.tells(full, (4, room), BAD)
        self.tells(full, (4, 1), LACK)

    def test_no_such_box(self):
        kernel = kernel_with({1: slot(regs=OWN)}, {3: box()})
        for number in (5, 6, 7):
            for other in (0, 1, 15, 16, TOP):
                self.tells(kernel, (number, other, 5), BAD)

    def test_send(self):
        kernel = kernel_with({1: slot(regs=OWN)}, {3: box(2, (4,), 7)})
        told = self.call(kernel, 5, 3, 9)
        wanted = changed(kernel, ("boxes", 3), box(2, (4, 9), 7))
        self.assertEqual(told, (with_slot(wanted, 1, regs=told_regs(0)), False, None))
        told = self.call(with_slot(told[0], 1, regs=OWN), 5, 3, 8)
        wanted = changed(wanted, ("boxes", 3), box(2, (4, 9), 7, (1,)))
        self.assertEqual(told, ({**with_slot(wanted, 1, waits=("send", 3), word=8), "turns": ([],) * 5}, False, None))

    def test_send_where_tasks_wait(self):
        some = {**waiting(3, "take", 7, 2), 1: slot(regs=OWN), 4: slot()}
        kernel = kernel_with(some, {3: box(2, (), 5, (7, 2))}, turns=([], [(1, 0), (4, 7)], [], [], []))
        told, lacked, came = self.call(kernel, 5, 3, 9)
        self.assertEqual(told["slots"][7]["regs"], [0, 9] + [7] * 6)
        self.assertEqual((told["slots"][1]["regs"], told["slots"][7]["waits"]), (told_regs(0), None))
        self.assertEqual(told["turns"], ([], [(1, 0), (4, 7), (7, 0)], [], [], []))
        self.assertEqual(told["boxes"][3], box(2, (), 5, (2,)))

    def test_take(self):
        kernel = kernel_with({1: slot(regs=OWN)}, {3: box(2, (4,), 7), 4: box()})
        told = self.call(kernel, 6, 3)
        wanted = changed(kernel, ("boxes", 3), box(2, (), 0))
        self.assertEqual(told, (with_slot(wanted, 1, regs=told_regs(0, 4)), False, None))
        told = self.call(kernel, 6, 4)
        wanted = changed(kernel, ("boxes", 4), box(chain=(1,)))
        self.assertEqual(told, ({**with_slot(wanted, 1, waits=("take", 4)), "turns": ([],) * 5}, False, None))

    def test_take_where_tasks_wait(self):
        some = {**waiting(3, "send", 7, 2, words=(70, 20)), 1: slot(regs=OWN)}
        kernel = kernel_with(some, {3: box(2, (5, 6), 6, (7, 2))})
        told, lacked, came = self.call(kernel, 6, 3)
        self.assertEqual(told["boxes"][3], box(2, (6, 70), 7, (2,)))
        self.assertEqual((told["slots"][1]["regs"], told["slots"][7]["regs"]), (told_regs(0, 5), [0] + [7] * 7))
        self.assertEqual(told["turns"], ([], [(1, 3), (7, 0)], [], [], []))

    def test_shut(self):
        some = {**waiting(3, "take", 7, 2, 9), 1: slot(regs=OWN), 4: slot(rank=3)}
        some[9]["rank"] = 3
        kernel = kernel_with(some, {3: box(2, (), 5, (7, 2, 9))})
        told, lacked, came = self.call(kernel, 7, 3)
        self.assertEqual(told["turns"], ([], [(1, 3), (7, 0), (2, 0)], [], [(4, 3), (9, 0)], []))
        self.assertEqual([told["slots"][number]["regs"][0] for number in (1, 7, 2, 9)], [0, BAD, BAD, BAD])
        self.assertEqual((told["boxes"][3], lacked, came), (None, False, None))

    def test_ring(self):
        some = {**waiting(3, "send", 7, 2, words=(1, 2)), 1: slot(regs=OWN)}
        some[7]["handler"] = 5
        kernel = kernel_with(some, {3: box(1, (4,), 5, (7, 2))})
        told, lacked, came = self.call(kernel, 9, 7)
        self.assertEqual(told["turns"], ([], [(1, 3), (7, 0)], [], [], []))
        self.assertEqual((told["slots"][7]["regs"], told["slots"][7]["rung"]), ([BELL] + [7] * 7, True))
        self.assertEqual((told["slots"][1]["regs"], told["boxes"][3]), (told_regs(0), box(1, (4,), 5, (2,))))
        outside = kept(self, kernel_ring, kernel, 7)
        self.assertEqual(outside, with_slot(told, 1, regs=OWN))
        self.assertEqual(self.call(kernel, 9, 2)[0], with_slot(with_slot(kernel, 2, rung=True), 1, regs=told_regs(0)))
        self.assertEqual(self.call(kernel, 9, 1)[0], with_slot(kernel, 1, rung=True, regs=told_regs(0)))
        for other in (0, 3, 15, 16, TOP):
            self.tells(kernel, (9, other), BAD)


class Ends(Calls):
    def end(self, kernel, who, code):
        self.assertIsNone(kernel_wrong(kernel))
        told = kept(self, kernel_end, kernel, who, code)
        self.assertIsNone(kernel_wrong(told))
        self.assertEqual(self.call(kernel, 0, code, 5, 5, who), (told, False, None))
        return told

    def test_without_a_parent(self):
        kernel = kernel_with({1: slot(), 2: slot(handles={1: 17})})
        told = self.end(kernel, 2, 5)
        self.assertEqual(told, kernel_with({1: slot()}))

    def test_with_a_parent_that_waits(self):
        kernel = kernel_with({1: slot(waits=("child",), first=2, regs=OWN, rank=3), 2: slot(parent=1), 3: slot(rank=3)})
        told = self.end(kernel, 2, TOP)
        self.assertEqual(told["turns"], ([], [], [], [(3, 3), (1, 0)], []))
        self.assertEqual((told["slots"][1]["regs"], told["slots"][2]), (told_regs(2, TOP), None))

    def test_with_a_parent_that_does_not_wait(self):
        kernel = kernel_with({1: slot(first=2), 2: slot(parent=1, rung=True, handles={1: 17}, first=3), 3: slot(parent=2)})
        told = self.end(kernel, 2, 6)
        self.assertEqual(told["turns"], ([], [(1, 3), (3, 3)], [], [], []))
        self.assertEqual(told["slots"][2], slot(parent=1, waits=("ended", 6)))
        self.assertEqual(sorted(told["memory"]["tables"]), [1, 3])

    def test_pages_are_given_back(self):
        kernel = small_kernel()
        told = self.end(kernel, 5, 0)
        self.assertEqual(told["memory"]["held"], [1, 1, 0, 1, 0, 1, 0, 0])
        told = self.end(told, 3, 0)
        self.assertEqual((told["memory"]["held"], told["memory"]["lent"]), ([1, 1, 0, 0, 0, 0, 0, 0], {}))


class Files(Calls):
    def kernel(self, floor=None, **news):
        return kernel_with({1: slot(regs=OWN, handles={1: 20, 2: 39, 3: 18, 4: 25}, **news), 2: slot(handles={1: 30})},
                           floor=small_floor() if floor is None else floor)

    def changes(self, kernel, parts, tree, came):
        """The floor has this tree behind the call, by the writings of one sealed change."""
        told, lacked, head = self.call(kernel, *parts)
        self.assertEqual((lacked, head, told["slots"][1]["regs"][0]), (False, came, 0))
        self.assertEqual(seen_tree(told["floor"]), tree)
        floor = kernel["floor"]
        change = [(number, told["floor"][number]) for number in range(14, len(floor)) if told["floor"][number] != floor[number]]
        self.assertEqual(told["floor"], written(floor, sealed(floor, change)))
        self.assertEqual({**told, "floor": floor}, with_slot(kernel, 1, regs=told["slots"][1]["regs"]))

    def test_made(self):
        tree = small_tree()[0]
        for number, node in ((11, ("folder", {})), (12, ("file", []))):
            names = {**tree[17][1], 2: 21}
            self.changes(self.kernel(), (number, 0, 2), {**tree, 17: ("folder", names), 21: node}, ("made", 21))
            names = {**tree[20][1], TOP: 21}
            self.changes(self.kernel(), (number, 1, TOP), {**tree, 20: ("folder", names), 21: node}, ("made", 21))
            for parts in ((2, 1), (3, 1), (5, 1), (8, 1), (TOP, 1), (0, 0)):
                self.tells(self.kernel(), (number, *parts), BAD)
            for parts in ((0, 1), (0, 5), (0, TOP), (1, 7)):
                self.tells(self.kernel(), (number, *parts), HELD)

    def filled(self, files, free):
        """A root with as many files, each with as many words as fill the floor of 32 blocks but for so many blocks."""
        heads = list(range(18, 18 + files))
        left = list(range(18 + files, 32 - free))
        tree = {16: ("folder", {name + 1: head for name, head in enumerate(heads)})}
        blocks = {16: [17]}
        for head in heads:
            blocks[head], left = left[:4], left[4:]
            tree[head] = ("file", [5] * 16 * len(blocks[head]))
        self.assertEqual(left, [])
        floor = floor_from(32, tree, blocks)
        self.assertEqual(len(free_blocks(floor)), free)
        return kernel_with({1: slot(regs=OWN, handles={1: heads[0], 2: heads[-1]})}, floor=floor)

    def test_made_lacks(self):
        for number in (11, 12):
            for files, free in ((3, 0), (8, 0), (8, 1)):
                self.tells(self.filled(files, free), (number, 0, 99), LACK, lacked=True)
                self.tells(self.filled(files, free), (number, 0, 1), HELD)
                self.tells(self.filled(files, free), (number, 0, 0), BAD)
            for files, free in ((3, 1), (8, 2)):
                told, lacked, came = self.call(self.filled(files, free), number, 0, 99)
                self.assertEqual((lacked, came, told["slots"][1]["regs"][0]), (False, ("made", 32 - free), 0))

    def test_write_lacks(self):
        kernel = self.filled(8, 0)
        self.tells(kernel, (19, 2, 0, 7), LACK, lacked=True)
        self.tells(kernel, (19, 2, 1, 7), BAD)
        told, lacked, came = self.call(self.filled(8, 1), 19, 2, 0, 7)
        self.assertEqual((lacked, came, told["slots"][1]["regs"]), (False, None, told_regs(0)))
        self.changes(kernel, (19, 1, 0, 7), {**seen_tree(kernel["floor"]), 18: ("file", [7] + [5] * 63)}, None)
        self.tells(kernel, (19, 1, 0, 5), 0)

    def heads(self, many):
        """A tree of so many heads: the root with 32 names at most, the others in a folder with the head 28."""
        names = {name: 28 + name for name in range(1, min(many - 1, 31) + 1)}
        inner = {name: 100 + name for name in range(1, many - len(names) - 1)}
        tree = {27: ("folder", {**names, 99: 28}), 28: ("folder", inner)}
        for head in list(names.values()) + list(inner.values()):
            tree[head] = ("file", [])
        blocks = {27: [150, 151, 152, 153], 28: [154, 155, 156, 157][:-(-len(inner) // 8)]}
        floor = floor_from(200, tree, blocks)
        self.assertEqual(len(seen_tree(floor)), many)
        return kernel_with({1: slot(regs=OWN, handles={1: 28})}, floor=floor)

    def test_thirty_nine_and_forty_heads(self):
        for number in (11, 12):
            told, lacked, came = self.call(self.heads(39), number, 1, 77)
            self.assertEqual((lacked, came[0], told["slots"][1]["regs"][0]), (False, "made", 0))
            self.tells(self.heads(40), (number, 1, 77), LACK)
            self.tells(self.heads(41), (number, 1, 77), LACK)
            self.tells(self.heads(40), (number, 1, 1), HELD)
            self.tells(self.heads(40), (number, 1, 0), BAD)
            self.tells(self.heads(39), (number, 0, 77), LACK)

    def test_dropped(self):
        tree = small_tree()[0]
        kernel = kernel_with({1: slot(regs=OWN, handles={1: 20})}, floor=small_floor())
        wanted = {head: node for head, node in tree.items() if head != 39}
        wanted[17] = ("folder", {TOP: 20, 1: 30})
        self.changes(kernel, (13, 0, 5), wanted, ("dropped", 39))
        wanted = {head: node for head, node in tree.items() if head != 25}
        wanted[20] = ("folder", {8: 18})
        self.changes(kernel, (13, 1, 7), wanted, ("dropped", 25))
        self.tells(kernel, (13, 0, TOP), HELD)
        self.tells(self.kernel(), (13, 0, 5), HELD)
        self.tells(self.kernel(), (13, 0, 1), HELD)
        self.tells(self.kernel(), (13, 1, 7), HELD)
        for parts in ((0, 2), (0, 0), (2, 5), (5, 5), (TOP, 5), (4, 7)):
            self.tells(self.kernel(), (13, *parts), BAD)
            self.tells(self.kernel(), (14, *parts), BAD)

    def test_opened_and_closed(self):
        kernel = self.kernel()
        handles = kernel["slots"][1]["handles"]
        told = self.call(kernel, 14, 0, TOP)
        self.assertEqual(told, (with_slot(kernel, 1, regs=told_regs(5), handles={**handles, 5: 20}), False, None))
        told = self.call(kernel, 14, 1, 8)
        self.assertEqual(told, (with_slot(kernel, 1, regs=told_regs(5), handles={**handles, 5: 18}), False, None))
        full = with_slot(kernel, 1, handles={handle: 20 for handle in range(1, 8)})
        self.tells(full, (14, 0, 5), LACK)
        self.tells(full, (14, 0, 6), BAD)
        told = self.call(kernel, 15, 2)
        self.assertEqual(told, (with_slot(kernel, 1, regs=told_regs(0), handles={1: 20, 3: 18, 4: 25}), False, None))
        for handle in (0, 5, 7, 8, TOP):
            self.tells(kernel, (15, handle), BAD)

    def test_sizes_names_words(self):
        kernel = self.kernel()
        for handle, size in ((0, 3), (1, 2), (2, 17), (3, 0), (4, 0), (5, BAD), (8, BAD), (TOP, BAD)):
            self.tells(kernel, (16, handle), size)
        for parts, name in (((0, 0), 1), ((0, 1), 5), ((0, 2), TOP), ((1, 1), 8)):
            self.tells(kernel, (17, *parts), 0, name)
        for parts, word in (((2, 0), 100), ((2, 16), 116)):
            self.tells(kernel, (18, *parts), 0, word)
        for parts in ((0, 3), (1, 2), (4, 0), (2, 0), (5, 0), (0, TOP)):
            self.tells(kernel, (17, *parts), BAD)
        for parts in ((2, 17), (2, TOP), (3, 0), (0, 0), (1, 0), (5, 0)):
            self.tells(kernel, (18, *parts), BAD)

    def test_written_and_cut(self):
        tree = small_tree()[0]
        words = tree[39][1]
        for place in (0, 15, 16, 17):
            new = words[:place] + [7] + words[place + 1:]
            self.changes(self.kernel(), (19, 2, place, 7), {**tree, 39: ("file", new)}, None)
        for many in (0, 1, 16):
            self.changes(self.kernel(), (20, 2, many), {**tree, 39: ("file", words[:many])}, None)
        self.tells(self.kernel(), (20, 2, 17), 0)
        self.tells(self.kernel(), (19, 2, 3, 103), 0)
        for parts in ((2, 18), (2, TOP), (0, 0), (1, 0), (5, 0), (4, 0)):
            self.tells(self.kernel(), (19, *parts, 1), BAD)
            self.tells(self.kernel(), (20, *parts), BAD)

    def test_sixty_four_words(self):
        kernel = self.filled(3, 1)
        self.tells(kernel, (19, 1, 64, 1), BAD)
        told, lacked, came = self.call(kernel, 19, 1, 63, 1)
        self.assertEqual(seen_tree(told["floor"])[18], ("file", [5] * 63 + [1]))


class Memory(Calls):
    def test_page(self):
        kernel = small_kernel()
        kernel = with_slot(kernel, 1, regs=OWN)
        told, lacked, came = self.call(kernel, 21, 4095)
        self.assertEqual((lacked, came, told["slots"][1]["regs"]), (False, None, told_regs(0)))
        self.assertEqual((told["memory"]["frames"][2], told["memory"]["tables"][1][4095]), (NOUGHTS, (2, "own")))
        for number in (0, 2, 4096, TOP):
            self.tells(kernel, (21, number), BAD)

    def test_page_lacks(self):
        for many, used, lacked in ((4, 3, False), (4, 4, True), (64, 64, True), (64, 63, False)):
            kernel = Tasks.paged(self, many, used)
            if lacked:
                self.tells(kernel, (21, 4095), LACK, lacked=True)
                self.tells(kernel, (21, 0), BAD)
                self.tells(kernel, (21, 4096), BAD)
            else:
                self.assertEqual(self.call(kernel, 21, 4095)[1], False)
        parted = self.call(Tasks.paged(self, 5, 2), 1)[0]
        self.assertEqual(self.call(parted, 21, 9)[1], False)
        self.tells(with_slot(self.call(parted, 21, 9)[0], 1, regs=OWN), (21, 10), LACK, lacked=True)

    def test_give_lend_hold(self):
        kernel = with_slot(small_kernel(), 1, regs=OWN)
        told, lacked, came = self.call(kernel, 22, 2)
        self.assertEqual((told["memory"]["held"][1], told["memory"]["tables"][1]), (1, {0: (0, "own")}))
        told, lacked, came = self.call(kernel, 23, 0)
        self.assertEqual((told["slots"][1]["regs"], told["memory"]["lent"]), (told_regs(1), {4: 5, 1: 0}))
        told, lacked, came = self.call(kernel, 23, 2)
        self.assertEqual((told["memory"]["lent"], told["memory"]["tables"][1][2]), ({4: 5, 1: 2}, (2, "lent")))
        self.assertEqual(told["memory"]["tables"][5][0], (1, "parted"))
        told, lacked, came = self.call(kernel, 24, 4, 7)
        self.assertEqual((told["memory"]["tables"][1][7], told["memory"]["held"][5]), ((5, "lent"), 3))
        for parts in ((22, 1), (22, TOP), (23, 1), (23, 4096), (24, 1, 7), (24, 0, 7), (24, 16, 7), (24, 4, 0), (24, 4, 4096)):
            self.tells(kernel, parts, BAD)

    def test_fifteen_lent_pages(self):
        memory = {**new_memory(17), "held": [1] * 16 + [0], "lent": {number: number for number in range(1, 16)},
                  "tables": {1: {number: (number, "lent" if number else "own") for number in range(16)}}}
        kernel = {**kernel_with({1: slot(regs=OWN)}), "memory": memory}
        self.tells(kernel, (23, 0), LACK)
        self.tells(kernel, (23, 5), BAD)
        told = self.call(kernel, 22, 5)[0]
        self.assertEqual(sorted(told["memory"]["lent"]), [number for number in range(1, 16) if number != 5])
        self.assertEqual(self.call(told, 23, 0)[0]["memory"]["lent"][5], 0)


class Refused(unittest.TestCase):
    THINGS = (0, 8, 15, 16, -1, TOP, None, True, False, "1", 1.0, [], [1], (), (1,), {}, {1: 1}, set())

    def test_calls_and_ends(self):
        for thing in self.THINGS + (2, 4, 7):
            for number in (0, 1, 8, 16, 24, 25):
                with self.assertRaises(NoTask, msg=thing):
                    kept(self, kernel_call, small_kernel(), thing, number, 0, 0, 0)
            with self.assertRaises(NoTask, msg=thing):
                kept(self, kernel_end, small_kernel(), thing, 5)

    def test_bells(self):
        for thing in self.THINGS + (7,):
            with self.assertRaises(NoTask, msg=thing):
                kept(self, kernel_ring, small_kernel(), thing)
        for task in (1, 2, 3, 4, 5, 6):
            told = kept(self, kernel_ring, small_kernel(), task)
            self.assertEqual(told, with_slot(small_kernel(), task, rung=True))


class Alike(unittest.TestCase):
    """Each call from kernels written at random, held against the plain machine's from the state that is the same."""

    def lacks(self, kernel, plain, task, number):
        """Whether this call would lack, where it would else be done."""
        beyond = len(free_frames(kernel["memory"])) - promised(kernel["memory"])
        if number == 1:
            return beyond < len([entry for entry in plain["tasks"][task]["pages"].values() if entry[0] == "own"])
        return beyond < 1 if number == 21 else None

    def check(self, kernel, plain, tying, task, number, words, seed):
        told, lacked, came = kernel_call(kernel, task, number, *words)
        wanted = plain_call(plain, task, number, *words, lacked)
        self.assertIsNone(kernel_wrong(told), (seed, task, number, words))
        self.assertEqual(seen_of_kernel(told), seen_of_plain(wanted, carried_on(tying, came)), (seed, task, number, words))
        if lacked:
            self.assertIn(number, (1, 11, 12, 19, 21))
            able = plain_call(plain, task, number, *words)
            self.assertNotIn(able["tasks"][task]["regs"][0], (BAD, HELD, LACK))
            if number in (1, 21):
                self.assertTrue(self.lacks(kernel, plain, task, number))
            else:
                self.assertLess(len(free_blocks(kernel["floor"])), 2)
        elif number in (1, 21) and wanted["tasks"][task]["regs"][0] not in (BAD, LACK):
            self.assertFalse(self.lacks(kernel, plain, task, number))
        return lacked

    def test_calls(self):
        lacks = {}
        for seed, kernel, plain, tying in worlds(150, 10000):
            before = repr((kernel, plain))
            chance = random.Random(seed)
            for task in ready_ones(plain)[:4]:
                for number in list(range(25)) + [25, TOP]:
                    words = random_call(chance, plain, number, task)
                    lacks[number] = lacks.get(number, 0) + self.check(kernel, plain, tying, task, number, words, seed)
            self.assertEqual(repr((kernel, plain)), before)
        self.assertGreater(min(lacks[number] for number in (1, 11, 12, 19, 21)), 2)

    def test_ends_and_bells(self):
        for seed, kernel, plain, tying in worlds(100, 20000):
            for task in ready_ones(plain):
                told = kernel_end(kernel, task, 7)
                self.assertIsNone(kernel_wrong(told))
                self.assertEqual(seen_of_kernel(told), seen_of_plain(plain_end(plain, task, 7), tying), (seed, task))
            for task, own in plain["tasks"].items():
                if own["waits"] is None or own["waits"][0] != "ended":
                    told = kernel_ring(kernel, task)
                    self.assertIsNone(kernel_wrong(told))
                    self.assertEqual(seen_of_kernel(told), seen_of_plain(rung_plain(plain, task), tying), (seed, task))

    def test_turns(self):
        """Who isn't ready any more is taken out, who is ready anew stands behind, with 0, and all others stay."""
        for seed, kernel, plain, tying in worlds(80, 30000):
            chance = random.Random(seed)
            for task in ready_ones(plain)[:3]:
                for number in range(25):
                    told, lacked, came = kernel_call(kernel, task, number, *random_call(chance, plain, number, task))
                    self.turns_of(kernel, told)

    def turns_of(self, kernel, told):
        ready = [{number for number, own in enumerate(one["slots"]) if own is not None and own["waits"] is None}
                 for one in (kernel, told)]
        ranks = [{number: own["rank"] for number, own in enumerate(one["slots"]) if own is not None} for one in (kernel, told)]
        moved = {number for number in ready[0] & ready[1] if ranks[0][number] != ranks[1][number]}
        for place in range(5):
            stay = [pair for pair in kernel["turns"][place] if pair[0] in ready[1] and pair[0] not in moved]
            new = told["turns"][place][len(stay):]
            self.assertEqual(told["turns"][place][:len(stay)], stay)
            self.assertEqual({passed for number, passed in new} - {0}, set())
            wanted = {number for number in (ready[1] - ready[0]) | moved if place < 4 and ranks[1][number] == place}
            self.assertEqual({number for number, passed in new}, wanted)


if __name__ == "__main__":
    unittest.main()
