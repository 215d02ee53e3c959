"""Promises 11.3 and 11.4: steps of both machines, and turns of the kernel."""

import random
import unittest

from bending import changed, kept
from kernelworlds import carried_on, random_call, ready_ones, seen_of_kernel, seen_of_plain, worlds
from plainworlds import BAD, BELL, LACK, NOUGHTS, TOP, many_tasks, state, task
from slotworlds import box, boxes_of, slot, slots_of
from test_kernels import empty_kernel, page, small_kernel
from underfloor.code import coded
from underfloor.errors import NoLack, NoTask
from underfloor.kernelcalls import kernel_ring
from underfloor.kernels import kernel_wrong
from underfloor.plainstates import plain_wrong
from underfloor.steps import kernel_step, kernel_turn, plain_ring, plain_step
from underfloor.texts import read_code
from underfloor.turns import standing

FAULTS = {"code": 2 ** 32 - 15, "page": 2 ** 32 - 14, "cut": 2 ** 32 - 13}


def regs(*words):
    return list(words) + [0] * (8 - len(words))


def both(words, parent=0, **news):
    """Task 3 with these words as its page 0, in a kernel and a plain state that is the same; 5 is its parent, if told."""
    words = tuple(words) + (0,) * (16 - len(words))
    some = {3: slot(parent=parent, **news), 5: slot(first=3 if parent else 0)}
    memory = {"frames": [words] + [NOUGHTS] * 5, "held": [1] + [0] * 5, "tables": {3: {0: (0, "own")}, 5: {}}, "lent": {}}
    turns = ([], [(5, 0), (3, 0)], [], [], [])
    if news.get("rank", 1) != 1:
        turns = tuple([(3, 0)] if rank == news["rank"] else [(5, 0)] if rank == 1 else [] for rank in range(5))
    kernel = {**empty_kernel(), "memory": memory, "slots": slots_of(some), "turns": turns}
    plain = state({3: task(parent=parent, pages={0: ("own", words)}, **news), 5: task()})
    return kernel, plain


class Steps(unittest.TestCase):
    def step(self, kernel, plain, who=3):
        """One step of both, the lack told on; what is told of it."""
        self.assertIsNone(kernel_wrong(kernel))
        self.assertIsNone(plain_wrong(plain))
        tying = {0: 14 + -(-len(kernel["floor"]) // 16)}
        kernel, told, lacked, came = kept(self, kernel_step, kernel, who)
        plain, plainly = kept(self, plain_step, plain, who, lacked)
        self.assertEqual(told, plainly)
        self.assertIsNone(kernel_wrong(kernel))
        self.assertEqual(seen_of_kernel(kernel), seen_of_plain(plain, carried_on(tying, came)))
        return kernel, plain, told, lacked, came

    def test_row(self):
        kernel, plain, told, lacked, came = self.step(*both([coded(("put", 1, 7))]))
        self.assertEqual((told, lacked, came), (("row",), False, None))
        self.assertEqual((plain["tasks"][3]["regs"], plain["tasks"][3]["row"]), (regs(0, 7), 1))

    def test_calls(self):
        for number, told_regs in ((8, regs(0, 9)), (99, regs(BAD, 9)), (TOP, regs(BAD, 9)), (3, regs(BAD, 9))):
            kernel, plain, told, lacked, came = self.step(*both([coded(("call",))], regs=regs(number, 9)))
            self.assertEqual((told, lacked, came), (("call", number), False, None))
            self.assertEqual((plain["tasks"][3]["regs"], plain["tasks"][3]["row"]), (told_regs, 1))
            self.assertEqual(kernel["slots"][3]["handler"], 9 if number == 8 else 0)

    def test_calls_get_r0_to_r3(self):
        kernel, plain, told, lacked, came = self.step(*both([coded(("call",))], regs=regs(12, 0, 8, 5, 6)))
        self.assertEqual((told, came), (("call", 12), ("made", 18)))
        self.assertEqual(plain["nodes"][0], ("folder", {8: 1}))

    def test_a_call_that_ends(self):
        kernel, plain, told, lacked, came = self.step(*both([coded(("call",))], regs=regs(0, 5)))
        self.assertEqual((told, kernel["slots"][3]), (("call", 0), None))
        kernel, plain, told, lacked, came = self.step(*both([coded(("call",))], parent=5, regs=regs(0, 9)))
        self.assertEqual(kernel["slots"][3]["waits"], ("ended", 9))

    def test_faults(self):
        for words, news, word in (
                ([TOP], {}, "code"), ([0], {"row": 16}, "page"), ([0], {"row": TOP}, "page"),
                ([coded(("cut", 0, 1, 2))], {"regs": regs(5, 6)}, "cut"), ([coded(("rest", 0, 1, 2))], {}, "cut"),
                ([coded(("load", 0, 1, 16))], {}, "page"), ([coded(("store", 0, 1, 16))], {}, "page")):
            kernel, plain, told, lacked, came = self.step(*both(words, parent=5, **news))
            self.assertEqual((told, lacked, came), (("fault", word), False, None))
            self.assertEqual(kernel["slots"][3]["waits"], ("ended", FAULTS[word]))
            self.assertEqual(plain["tasks"][3]["regs"], news.get("regs", regs()))
            kernel, plain, told, lacked, came = self.step(*both(words, **news))
            self.assertEqual((kernel["slots"][3], sorted(plain["tasks"])), (None, [5]))

    def test_a_fault_as_a_waiting_parent_sees_it(self):
        kernel, plain = both([TOP], parent=5)
        kernel = changed(changed(kernel, ("slots", 5, "waits"), ("child",)), ("turns",), ([], [(3, 0)], [], [], []))
        plain = changed(plain, ("tasks", 5, "waits"), ("child",))
        kernel, plain, told, lacked, came = self.step(kernel, plain)
        self.assertEqual(kernel["slots"][5]["regs"], regs(3, 2 ** 32 - 15))

    def test_handler(self):
        words = [coded(("put", 1, 7)), coded(("put", 2, 8)), coded(("call",))]
        kernel, plain, told, lacked, came = self.step(*both(words, handler=1, rung=True, regs=regs(10)))
        own = plain["tasks"][3]
        self.assertEqual((told, own["row"], own["rung"], own["saved"]), (("row",), 2, False, (regs(10), 0)))
        self.assertEqual(own["regs"], regs(10, 0, 8))
        kernel, plain, told, lacked, came = self.step(kernel, plain)
        self.assertEqual((told, plain["tasks"][3]["regs"], plain["tasks"][3]["row"]), (("call", 10), regs(10), 0))
        self.assertIsNone(plain["tasks"][3]["saved"])

    def test_no_handler(self):
        for news in ({"rung": True}, {"handler": 1}, {"handler": 1, "rung": True, "saved": (regs(1), 5)}):
            kernel, plain, told, lacked, came = self.step(*both([coded(("put", 1, 7)), coded(("put", 2, 8))], **news))
            self.assertEqual((plain["tasks"][3]["regs"], plain["tasks"][3]["row"]), (regs(0, 7), 1))
            self.assertEqual(plain["tasks"][3]["saved"], news.get("saved"))

    def test_handler_that_is_no_page(self):
        kernel, plain, told, lacked, came = self.step(*both([0], handler=TOP, rung=True, parent=5))
        self.assertEqual((told, kernel["slots"][3]["waits"]), (("fault", "page"), ("ended", FAULTS["page"])))

    def test_lack(self):
        kernel, plain = both([coded(("call",))], regs=regs(21, 9))
        memory = kernel["memory"]
        full = {**memory, "held": [1] * 6, "tables": {3: {number: (number, "own") for number in range(6)}, 5: {}}}
        pages = {number: ("own", memory["frames"][number]) for number in range(6)}
        kernel = {**kernel, "memory": full}
        plain = changed(plain, ("tasks", 3, "pages"), pages)
        kernel, plain, told, lacked, came = self.step(kernel, plain)
        self.assertEqual((told, lacked, plain["tasks"][3]["regs"]), (("call", 21), True, regs(LACK, 9)))

    def test_lack_told_to_the_plain_step(self):
        for number in (1, 11, 12, 19, 21):
            plain = both([coded(("call",))], regs=regs(number, 9))[1]
            told = kept(self, plain_step, plain, 3, True)
            wanted = changed(changed(plain, ("tasks", 3, "regs"), regs(LACK, 9)), ("tasks", 3, "row"), 1)
            self.assertEqual(told, (wanted, ("call", number)))
        for number in (0, 2, 5, 20, 22, 25, TOP):
            with self.assertRaises(NoLack):
                kept(self, plain_step, both([coded(("call",))], regs=regs(number))[1], 3, True)

    def test_lack_that_is_not_told(self):
        plain = both([coded(("call",))], regs=regs(21, 9))[1]
        for told in (kept(self, plain_step, plain, 3), kept(self, plain_step, plain, 3, False)):
            self.assertEqual((told[0]["tasks"][3]["regs"], told[1]), (regs(0, 9), ("call", 21)))

    def test_lack_is_passed_over(self):
        for words in ([coded(("put", 1, 7))], [TOP], [coded(("cut", 1, 1, 1))]):
            plain = both(words)[1]
            self.assertEqual(kept(self, plain_step, plain, 3, True), plain_step(plain, 3))

    def test_of_what_is_no_ready_task(self):
        kernel = small_kernel()
        plain = state({1: task(), 2: task(waits=("take", 1, 0)), 4: task(waits=("child",)), 5: task(parent=4),
                       7: task(parent=1, waits=("ended", 0))}, boxes={1: (1, [])}, clock=1)
        for thing in (0, 2, 4, 7, 8, 15, 16, -1, TOP, None, True, False, "1", 1.0, [], [1], (), (1,), {}, {1: 1}, set()):
            with self.assertRaises(NoTask, msg=thing):
                kept(self, kernel_step, kernel, thing)
            with self.assertRaises(NoTask, msg=thing):
                kept(self, plain_step, plain, thing)
            with self.assertRaises(NoTask, msg=thing):
                kept(self, plain_step, plain, thing, True)

    def test_rings(self):
        plain = state({1: task(), 2: task(waits=("take", 1, 0), handler=5), 7: task(parent=1, waits=("ended", 0))},
                      boxes={1: (1, [])}, clock=1)
        told = kept(self, plain_ring, plain, 1)
        self.assertEqual(told, changed(plain, ("tasks", 1, "rung"), True))
        told = kept(self, plain_ring, plain, 2)
        self.assertEqual(told["tasks"][2], task(handler=5, rung=True, regs=regs(BELL)))
        for thing in (0, 3, 7, 16, -1, TOP, None, True, False, "1", 1.0, [], [1], (), {}, set()):
            with self.assertRaises(NoTask, msg=thing):
                kept(self, plain_ring, plain, thing)

    def test_alike_from_states_at_random(self):
        kinds = {}
        for seed, kernel, plain, tying in worlds(120, 40000):
            chance = random.Random(seed)
            for turn in range(12):
                ready = ready_ones(plain)
                if not ready:
                    break
                who = chance.choice(ready)
                if chance.random() < 0.5:
                    number = chance.randrange(25)
                    words = (number,) + random_call(chance, plain, number, who)
                    kernel = changed(kernel, ("slots", who, "regs"), list(words) + kernel["slots"][who]["regs"][4:])
                    plain = changed(plain, ("tasks", who, "regs"), list(words) + plain["tasks"][who]["regs"][4:])
                if chance.random() < 0.2:
                    other = chance.choice(ready)
                    kernel, plain = kernel_ring(kernel, other), plain_ring(plain, other)
                kernel, told, lacked, came = kernel_step(kernel, who)
                plain, plainly = plain_step(plain, who, lacked)
                tying = carried_on(tying, came)
                self.assertEqual(told, plainly)
                self.assertIsNone(kernel_wrong(kernel))
                self.assertEqual(seen_of_kernel(kernel), seen_of_plain(plain, tying), (seed, who, told))
                kinds[told[0]] = kinds.get(told[0], 0) + 1
        self.assertGreater(min(kinds["row"], kinds["call"], kinds["fault"]), 30)


class Turns(unittest.TestCase):
    def turn(self, kernel):
        self.assertIsNone(kernel_wrong(kernel))
        told = kept(self, kernel_turn, kernel)
        self.assertIsInstance(told, tuple)
        self.assertIsNone(kernel_wrong(told[0]))
        return told

    def counting(self, rank):
        return both(read_code("again:\nadd r1 r1 r2\njump again"), rank=rank, regs=regs(0, 0, 1))[0]

    def test_rows_by_rank(self):
        for rank, rows in ((0, 4), (1, 8), (2, 12), (3, 16)):
            kernel = changed(self.counting(rank), ("slots", 5, "rank"), 0)
            kernel = {**kernel, "turns": tuple([(3, 5)] if number == rank else [] for number in range(5))}
            kernel["turns"][0].append((5, 0))
            kernel, steps = self.turn(kernel)
            self.assertEqual(steps, [(3, False, None)] * rows)
            self.assertEqual(kernel["slots"][3]["regs"][1], rows // 2)
            self.assertEqual(standing(kernel["turns"], 3)[0], rank)
            self.assertEqual(standing(kernel["turns"], 3)[2], 0)

    def test_the_next_stands_behind_its_list(self):
        kernel = self.counting(1)
        kernel["turns"] = ([], [(3, 6), (5, 2)], [], [], [])
        told, steps = self.turn(kernel)
        self.assertEqual(told["turns"], ([], [(5, 3), (3, 0)], [], [], []))
        kernel["turns"] = ([], [(5, 7)], [], [], [(3, 8)])
        told, steps = self.turn(kernel)
        self.assertEqual((steps[0][0], told["turns"]), (3, ([], [(3, 0)], [], [], [(5, 8)])))

    def test_nobody_is_ready(self):
        self.assertEqual(self.turn(empty_kernel()), (empty_kernel(), []))

    def test_one_that_waits_amid_its_rows(self):
        kernel = both([coded(("put", 0, 6)), coded(("put", 1, 2)), coded(("call",)), coded(("put", 0, 1))])[0]
        kernel = changed(kernel, ("boxes", 2), box(3))
        kernel["turns"] = ([], [(3, 0), (5, 0)], [], [], [])
        told, steps = self.turn(kernel)
        self.assertEqual((steps, told["slots"][3]["waits"]), ([(3, False, None)] * 3, ("take", 2)))
        self.assertEqual(told["turns"], ([], [(5, 1)], [], [], []))

    def test_one_that_ends_amid_its_rows(self):
        for words, many in (([coded(("put", 1, 7)), TOP], 2), ([coded(("call",))], 1)):
            kernel = both(words)[0]
            kernel["turns"] = ([], [(3, 0), (5, 0)], [], [], [])
            told, steps = self.turn(kernel)
            self.assertEqual((steps, told["slots"][3]), ([(3, False, None)] * many, None))

    def test_rank_when_the_turn_begins(self):
        words = read_code("put r0 3\nput r1 3\ncall\nagain:\nadd r3 r3 r4\njump again")
        kernel = changed(both(words, rank=0, regs=regs(0, 0, 0, 0, 1))[0], ("slots", 5, "rank"), 0)
        kernel = {**kernel, "turns": ([(3, 0), (5, 0)], [], [], [], [])}
        told, steps = self.turn(kernel)
        self.assertEqual((len(steps), told["slots"][3]["rank"], told["turns"]), (4, 3, ([(5, 1)], [], [], [(3, 0)], [])))
        told, steps = self.turn(told)
        self.assertEqual(len(steps), 16)

    def test_heads_and_lacks_are_told(self):
        text = "put r0 12\nput r2 9\ncall\nput r0 13\ncall\nput r0 21\nput r1 77\ncall"
        kernel = both(read_code(text), rank=1)[0]
        memory = {**kernel["memory"], "held": [1] * 6, "tables": {3: {number: (number, "own") for number in range(6)}, 5: {}}}
        kernel = {**kernel, "memory": memory, "turns": ([], [(3, 0), (5, 0)], [], [], [])}
        told, steps = self.turn(kernel)
        wanted = [(3, False, None)] * 8
        wanted[2], wanted[4], wanted[7] = (3, False, ("made", 18)), (3, False, ("dropped", 18)), (3, True, None)
        self.assertEqual(steps, wanted)

    def test_others_run_too(self):
        kernel = both(read_code("again:\njump again"), rank=3)[0]
        words = kernel["memory"]["frames"][0]
        tables = {3: {0: (0, "own")}, 5: {0: (1, "own")}}
        memory = {**kernel["memory"], "held": [1, 1, 0, 0, 0, 0], "tables": tables, "frames": [words] * 6}
        kernel = {**kernel, "memory": memory}
        seen = []
        for turn in range(40):
            kernel, steps = self.turn(kernel)
            seen.append(steps[0][0])
        self.assertEqual(seen, ([3] * 8 + [5]) * 4 + [3] * 4)


if __name__ == "__main__":
    unittest.main()
