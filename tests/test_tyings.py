"""Promises 12.1 to 12.3: the checker, what it lets by and what not, and tyings carried on."""

import random
import unittest

from bending import NO_STATES, bends, changed, kept
from floorworlds import TOP
from kernelworlds import carried_on, kernel_of, random_call, random_plain, ready_ones, worlds
from plainworlds import state, task
from slotworlds import box, slot
from test_kernels import empty_kernel, page, small_kernel
from underfloor.kernelcalls import kernel_call, kernel_end, kernel_ring
from underfloor.kernels import kernel_wrong
from underfloor.plaincalls import plain_call, plain_end
from underfloor.plainstates import plain_wrong
from underfloor.steps import kernel_step, plain_ring, plain_step
from underfloor.tyings import carried, tied

TYING = {0: 17, 1: 39, 2: 20, 3: 25, 4: 18, 5: 30}


def small_plain():
    """The plain state that is the same as the small kernel."""
    def own(number):
        return ("own", page(("put", 0, number)))
    tasks = {
        1: task(rank=3, handles={1: 1, 7: 0}, pages={0: own(0), 2: own(1)}), 2: task(regs=[2] * 8, waits=("take", 2, 3)),
        3: task(rank=2, pages={0: own(3), 1: ("lent", 4)}), 4: task(waits=("child",)),
        5: task(parent=4, pages={0: own(1), 4095: ("lent", 4)}), 6: task(rank=0), 7: task(parent=1, waits=("ended", 9)),
    }
    nodes = {
        0: ("folder", {5: 1, TOP: 2, 1: 5}), 1: ("file", list(range(100, 117))), 2: ("folder", {7: 3, 8: 4}),
        3: ("folder", {}), 4: ("file", []), 5: ("file", [0]),
    }
    return state(tasks, lent={4: page(("put", 0, 5))}, boxes={2: (3, []), 9: (1, [5])}, nodes=nodes, clock=7)


def three():
    return small_kernel(), small_plain(), dict(TYING)


def leaves(thing, path=()):
    """The paths of all whole numbers in a thing."""
    if isinstance(thing, int) and not isinstance(thing, bool):
        yield path
    elif isinstance(thing, dict):
        for key in thing:
            yield from leaves(thing[key], path + (key,))
    elif isinstance(thing, (list, tuple)):
        for place, part in enumerate(thing):
            yield from leaves(part, path + (place,))


def at(thing, path):
    for key in path:
        thing = thing[key]
    return thing


# Paths into (kernel, plain, tying), and parts with which each is good by itself, but the three are tied no more.
BENT = (
    ((0, "slots", 1, "regs"), ([0] * 7 + [1], [TOP] + [0] * 7)),
    ((0, "slots", 1, "row"), (1, TOP)),
    ((0, "slots", 1, "handler"), (1,)),
    ((0, "slots", 1, "rung"), (True,)),
    ((0, "slots", 1, "saved"), (([0] * 8, 0),)),
    ((0, "slots", 1, "rank"), (0, 1, 2)),
    ((0, "slots", 1, "handles"), ({}, {1: 39}, {1: 39, 7: 17, 2: 39}, {1: 39, 6: 17}, {1: 20, 7: 17}, {1: 17, 7: 39})),
    ((0, "slots", 7, "waits"), (("ended", 8), ("ended", 0))),
    ((0, "boxes", 9), (None, box(2, (5,)), box(1, (6,)), box(1), box(2, (5, 5)))),
    ((0, "boxes", 2), (box(2, (), 1, (2,)),)),
    ((0, "boxes", 1), (box(),)),
    ((0, "boxes", 15), (box(),)),
    ((1, "boxes", 15), ((1, []),)),
    ((0, "memory", "frames", 0), (page(("put", 0, 1)), (TOP,) * 16)),
    ((0, "memory", "frames", 5), (page(("put", 0, 1)),)),
    ((0, "memory", "lent"), ({5: 5}, {1: 5})),
    ((0, "floor", 36), ((100,) * 16,)),
    ((0, "floor", 33), ((1,) + (0,) * 15,)),
    ((0, "floor", 30), ((1, 2, 33) + (0,) * 13,)),
    ((0, "floor", 25), ((1,) + (0,) * 15,)),
    ((0, "floor", 22), ((1, 30, 6, 39, TOP, 20) + (0,) * 10, (1, 39, 5, 30, TOP, 20) + (0,) * 10)),
    ((1, "tasks", 6, "row"), (1,)),
    ((1, "tasks", 6, "rank"), (1,)),
    ((1, "tasks", 6, "handles"), ({1: 0},)),
    ((1, "tasks", 6, "pages"), ({0: ("own", (0,) * 16)}, {0: ("lent", 4)})),
    ((1, "tasks", 6, "parent"), (1, 4)),
    ((1, "tasks", 7, "parent"), (6,)),
    ((1, "tasks", 3, "pages"), (
        {0: ("own", page(("put", 0, 3))), 1: ("own", page(("put", 0, 5)))}, {0: ("own", page(("put", 0, 3)))},
        {0: ("lent", 4), 1: ("lent", 4)}, {0: ("own", page(("put", 0, 3))), 2: ("lent", 4)},
        {0: ("own", page(("put", 0, 3))), 1: ("lent", 4), 2: ("lent", 4)})),
    ((1, "tasks", 2, "waits"), (None, ("child",))),
    ((1, "tasks", 8), (task(),)),
    ((1, "lent", 4), (page(("put", 0, 6)),)),
    ((1, "boxes", 2), ((4, []),)),
    ((1, "boxes", 9), ((1, []), (2, [5]), (1, [6]))),
    ((1, "boxes", 3), ((1, []),)),
    ((1, "nodes", 1), (("file", list(range(100, 116))), ("file", list(range(101, 118))), ("file", list(range(100, 118))))),
    ((1, "nodes", 3), (("file", []),)),
    ((1, "nodes", 2), (("folder", {7: 4, 8: 3}), ("folder", {7: 3, 9: 4}))),
    ((2,), ({}, {0: 17}, {**TYING, 6: 99}, {**TYING, 3: 18, 4: 25}, {**TYING, 0: 39, 1: 17}, {**TYING, 1: 30, 5: 39},
            {**TYING, 1: 20}, {**TYING, 4: 21}, {n: h for n, h in TYING.items() if n != 5}, {**TYING, 0: 16},
            {**TYING, -1: 30}, {n + 1: h for n, h in TYING.items()})),
)


class Tied(unittest.TestCase):
    def tied(self, kernel, plain, tying, why=None):
        self.assertIsNone(kept(self, tied, kernel, plain, tying), why)

    def loose(self, kernel, plain, tying, why=None):
        told = kept(self, tied, kernel, plain, tying)
        self.assertIsInstance(told, str, why)
        self.assertNotEqual(told, "")

    def test_good(self):
        self.tied(*three())
        for many in (32, 33, 200):
            self.tied(empty_kernel(many), state({}), {0: 14 + -(-many // 16)})
        for seed, kernel, plain, tying in worlds(60, 50000):
            self.tied(kernel, plain, tying, seed)

    def test_other_kernels_of_one_plain_state(self):
        for seed in range(20):
            plain = random_plain(seed)
            told = [kernel_of(plain, other) for other in range(3)]
            for pair in told:
                if pair is not None:
                    self.tied(pair[0], plain, pair[1])
            if None not in told and told[0][1] != told[1][1] and len(plain["nodes"]) > 2:
                self.loose(told[0][0], plain, told[1][1])

    def test_other_tyings_of_the_same_states(self):
        """Where nodes are numbered otherwise, another tying ties them."""
        numbers = {0: 0, 1: 5, 2: 39, 3: 7, 4: 1, 5: 3}
        plain = small_plain()
        nodes = {}
        for number, node in plain["nodes"].items():
            nodes[numbers[number]] = node if node[0] == "file" else (
                "folder", {name: numbers[inner] for name, inner in node[1].items()})
        plain = {**plain, "nodes": nodes}
        plain = changed(plain, ("tasks", 1, "handles"), {1: 5, 7: 0})
        self.tied(small_kernel(), plain, {numbers[number]: head for number, head in TYING.items()})
        self.loose(small_kernel(), plain, TYING)

    def test_what_may_be_otherwise(self):
        kernel, plain, tying = three()
        self.tied(kernel, {**plain, "clock": 4}, tying)
        self.tied(kernel, changed(plain, ("tasks", 2, "waits"), ("take", 2, 0)), tying)
        self.tied(changed(kernel, ("turns",), ([(6, 0)], [(5, 1)], [(3, 2)], [(1, 5)], [])), plain, tying)
        self.tied(changed(kernel, ("memory", "frames", 2), (TOP,) * 16), plain, tying)
        self.tied(changed(kernel, ("floor", 5), (TOP,) * 16), plain, tying)
        self.tied(changed(kernel, ("floor", 21), (TOP,) * 16), plain, tying)
        self.tied(changed(kernel, ("boxes", 9), box(1, (5,), 7)), plain, tying)

    def test_bent(self):
        for path, parts in BENT:
            for part in parts:
                self.loose(*changed(three(), path, part), (path, part))

    def test_bent_things_are_good_by_themselves(self):
        """So most of them are found by what ties them, and not by what each is."""
        good = [(path, part) for path, parts in BENT for part in parts
                if kernel_wrong(changed(three(), path, part)[0]) is None and plain_wrong(changed(three(), path, part)[1]) is None]
        self.assertGreater(len(good), 60)

    def test_each_number_of_the_plain_state(self):
        kernel, plain, tying = three()
        free = [("clock",), ("tasks", 2, "waits", 2)]
        for path in leaves(plain):
            for more in (1, -1):
                if path not in free:
                    self.assertIsInstance(tied(kernel, changed(plain, path, at(plain, path) + more), tying), str, path)

    def test_each_number_of_the_kernel(self):
        kernel, plain, tying = three()
        unheld = [frame for frame, many in enumerate(kernel["memory"]["held"]) if many == 0]
        unused = list(range(1, 14)) + [number for number in range(18, 40) if kernel["floor"][14 + number // 16][number % 16] == 0]
        for path in leaves(kernel):
            if path[:2] == ("memory", "frames") and path[2] in unheld or path[0] == "floor" and path[1] in unused:
                continue
            if path[0] == "turns" or path == ("boxes", 2, "start"):
                continue
            self.assertIsInstance(tied(changed(kernel, path, at(kernel, path) + 1), plain, tying), str, path)

    def test_each_number_of_the_tying(self):
        kernel, plain, tying = three()
        for number in tying:
            for more in (1, -1, 3):
                self.loose(kernel, plain, {**tying, number: tying[number] + more})

    def test_order_of_those_that_wait(self):
        kernel, plain, tying = three()
        kernel = changed(changed(kernel, ("slots", 6, "waits"), ("take", 2)), ("turns", 0), [])
        plain = changed(plain, ("tasks", 6, "waits"), ("take", 2, 5))
        behind = changed(changed(kernel, ("slots", 2, "next"), 6), ("boxes", 2), box(3, (), 1, (2, 6)))
        ahead = changed(changed(kernel, ("slots", 6, "next"), 2), ("boxes", 2), box(3, (), 1, (6, 2)))
        self.tied(behind, plain, tying)
        self.loose(ahead, plain, tying)
        sooner = changed(plain, ("tasks", 6, "waits"), ("take", 2, 1))
        self.tied(ahead, sooner, tying)
        self.loose(behind, sooner, tying)

    def test_words_to_be_sent(self):
        kernel, plain, tying = three()
        kernel = changed(changed(kernel, ("slots", 6), slot(rank=0, waits=("send", 9), word=77)), ("turns", 0), [])
        kernel = changed(kernel, ("boxes", 9), box(1, (5,), 0, (6,)))
        plain = changed(plain, ("tasks", 6, "waits"), ("send", 9, 77, 5))
        self.tied(kernel, plain, tying)
        for word in (0, 76, TOP):
            self.loose(changed(kernel, ("slots", 6, "word"), word), plain, tying)
            self.loose(kernel, changed(plain, ("tasks", 6, "waits"), ("send", 9, word, 5)), tying)

    def test_anything(self):
        kernel, plain, tying = three()
        for thing in NO_STATES:
            self.assertIsInstance(tied(thing, plain, tying), str, thing)
            self.assertIsInstance(tied(kernel, thing, tying), str, thing)
            self.assertIsInstance(tied(kernel, plain, thing), str, thing)
            self.assertIsInstance(tied(thing, thing, thing), str, thing)
        self.assertIsInstance(tied(plain, kernel, tying), str)
        for thing in bends(tying):
            self.assertIsInstance(tied(kernel, plain, thing), str, thing)
        for thing in list(bends(plain))[::7]:
            self.assertIsInstance(tied(kernel, thing, tying), str, thing)
        for thing in list(bends({**kernel, "floor": kernel["floor"][:32]}))[::29]:
            self.assertIsInstance(tied(thing, plain, tying), str, thing)


class Carried(unittest.TestCase):
    def test_made(self):
        for tying, number in (({0: 17}, 1), ({0: 17, 2: 30}, 1), ({0: 17, 1: 20, 2: 30}, 3), ({0: 17, 1: 20, 3: 30, 9: 21}, 2)):
            told = kept(self, carried, tying, ("made", 99))
            self.assertEqual(told, {**tying, number: 99})

    def test_dropped(self):
        self.assertEqual(kept(self, carried, {0: 17, 1: 20, 3: 30}, ("dropped", 20)), {0: 17, 3: 30})

    def test_nothing(self):
        self.assertEqual(kept(self, carried, TYING, None), TYING)


class GoOnAlike(unittest.TestCase):
    """From threes that are tied, whatever one goes on with, they are tied again by the tying carried on."""

    def untouched(self, before, after, who, others):
        for number, own in before["tasks"].items():
            if number != who and number not in others:
                self.assertEqual(after["tasks"][number], own, number)

    def test_steps(self):
        for seed, kernel, plain, tying in worlds(80, 60000):
            self.assertIsNone(tied(kernel, plain, tying))
            chance = random.Random(seed)
            for turn in range(8):
                ready = ready_ones(plain)
                if not ready:
                    break
                who = chance.choice(ready)
                kernel, told, lacked, came = kernel_step(kernel, who)
                plain, plainly = plain_step(plain, who, lacked)
                tying = carried(tying, came)
                self.assertEqual(told, plainly)
                self.assertIsNone(tied(kernel, plain, tying), (seed, turn, who, told))

    def test_calls(self):
        for seed, kernel, plain, tying in worlds(60, 70000):
            chance = random.Random(seed)
            for who in ready_ones(plain)[:2]:
                for number in list(range(25)) + [25]:
                    words = random_call(chance, plain, number, who)
                    after, lacked, came = kernel_call(kernel, who, number, *words)
                    plainly = plain_call(plain, who, number, *words, lacked)
                    self.assertEqual(carried(tying, came), carried_on(tying, came))
                    self.assertIsNone(tied(after, plainly, carried(tying, came)), (seed, who, number, words))
                    if number in (3, 4, 8, 10) or number in range(11, 22) or number == 25:
                        self.untouched(plain, plainly, who, ())
                    if number == 9:
                        self.untouched(plain, plainly, who, (words[0],))

    def test_ends_and_bells(self):
        for seed, kernel, plain, tying in worlds(50, 80000):
            for who in ready_ones(plain):
                self.assertIsNone(tied(kernel_end(kernel, who, 3), plain_end(plain, who, 3), tying))
            for who, own in plain["tasks"].items():
                if own["waits"] is None or own["waits"][0] != "ended":
                    self.assertIsNone(tied(kernel_ring(kernel, who), plain_ring(plain, who), tying))

    def test_many_calls_one_behind_the_other(self):
        for seed, kernel, plain, tying in worlds(25, 90000):
            chance = random.Random(seed)
            for turn in range(40):
                ready = ready_ones(plain)
                if not ready:
                    break
                who = chance.choice(ready)
                number = chance.choice((1, 2, 4, 5, 6, 9, 11, 12, 13, 14, 19, 20, 21, 23, 24, chance.randrange(25)))
                words = random_call(chance, plain, number, who)
                kernel, lacked, came = kernel_call(kernel, who, number, *words)
                plain = plain_call(plain, who, number, *words, lacked)
                tying = carried(tying, came)
                if turn % 4 == 3:
                    self.assertIsNone(tied(kernel, plain, tying), (seed, turn, who, number, words))
            self.assertIsNone(tied(kernel, plain, tying))


if __name__ == "__main__":
    unittest.main()
