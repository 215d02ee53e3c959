"""Promises 4.1 to 4.4: what a plain state is, and what is told of anything."""

import copy
import unittest

from bending import NO_STATES, bends, changed, kept
from plainworlds import BAD, BELL, HELD, LACK, NONE, NOUGHTS, RISING, TOP, good_states, many_tasks, seventh, state, task
from underfloor import plainstates
from underfloor.plainstates import is_ready, new_plain, plain_wrong

# Each path leads to a part of the state of `seventh`; with any of the parts behind it, it is a plain state no more.
BENT = (
    (("clock",), (8, 0, -1, 7.0)),
    (("tasks", 1, "parent"), (1, 2, 6, 16, -1, TOP)),
    (("tasks", 10, "parent"), (10, 2, 6, 16, -1)),
    (("tasks", 2, "parent"), (0, 2)),
    (("tasks", 3, "parent"), (3, 4, 5, 2, 14)),
    (("tasks", 9, "parent"), (9, 2)),
    (("tasks", 1, "rank"), (-1, 4, TOP)),
    (("tasks", 1, "regs"), ([0] * 7, [0] * 9, [], [0] * 7 + [TOP + 1], [0] * 7 + [-1], [True] * 8)),
    (("tasks", 1, "row"), (-1, TOP + 1)),
    (("tasks", 1, "handler"), (-1, TOP + 1)),
    (("tasks", 1, "saved"), (([0] * 7, 1), ([0] * 8, -1), ([0] * 8, TOP + 1), ([0] * 8, None), ((0,) * 8, 1), ([0] * 8,),
                             ([0] * 8, 1, 1), ([TOP + 1] * 8, 1), (None, 1), ())),
    (("tasks", 1, "pages"), (
        {-1: ("own", RISING)}, {4096: ("own", RISING)}, {0: ("own", RISING[1:])}, {0: ("own", RISING + (0,))},
        {0: ("own", (TOP + 1,) * 16)}, {0: ("own", (-1,) * 16)}, {0: ("own", list(RISING))}, {0: ("lent", 0)},
        {0: ("lent", -1)}, {0: ("lent", 1)}, {0: ("lent", 3)}, {0: ("lent", RISING)}, {0: ("own", 2)},
        {0: ("parted", RISING)}, {0: RISING}, {0: ()}, {0: ("own",)}, {0: ["own", RISING]}, {0: ("own", RISING, 0)})),
    (("tasks", 3, "pages"), ({}, {8: ("lent", 2)}, {7: ("lent", 2)})),
    (("tasks", 1, "handles"), ({0: 1}, {8: 1}, {-1: 1}, {1: 4}, {1: 38}, {1: 40}, {1: -1}, {1: None}, {1: "1"}, [], {1: ()})),
    (("tasks", 2, "handles"), ({1: 0},)),
    (("tasks", 2, "pages"), ({1: ("own", NOUGHTS)}, {1: ("lent", 2)})),
    (("tasks", 2, "rung"), (True,)),
    (("tasks", 2, "saved"), (([0] * 8, 0),)),
    (("tasks", 1, "waits"), (
        ("child",), ("ended", 0), (), ("ready",), ("child", 1), ("take",), ("take", 2, 1), ("take", 1, 1), ("take", 3, 1),
        ("take", 15, 5), ("take", 15, 9), ("take", 15, -1), ("take", 0, 1), ("take", 16, 1), ("take", 15, 1, 1),
        ("take", 15), ("send", 1, 0, 1), ("send", 15, 0, 1), ("send", 2, 0, 9), ("send", 2, 0, 8), ("send", 2, 0, 5),
        ("send", 2, -1, 1), ("send", 2, TOP + 1, 1), ("send", 2, 1), ("send", 2, 1, 1, 1), ("send", 7, 1, 1),
        "child", ["child"], 0, False)),
    (("tasks", 10, "waits"), (("child",),)),
    (("tasks", 2, "waits"), (("ended",), ("ended", -1), ("ended", TOP + 1), ("ended", 1, 1), ("ended", None))),
    (("tasks", 4, "waits"), (("ended", 1),)),
    (("tasks", 15, "waits"), (("ended", 1), ("take", 15, 0), ("take", 15, 3))),
    (("lent",), ({2: NOUGHTS}, {5: NOUGHTS}, {2: NOUGHTS, 5: RISING, 1: RISING}, {}, {2: NOUGHTS, 5: RISING, 0: RISING})),
    (("lent", 2), ((), NOUGHTS[1:], NOUGHTS + (0,), (TOP + 1,) * 16, (-1,) * 16, ("own", NOUGHTS))),
    (("nodes", 0), (("file", []), ("folder", {}), ("folder", {5: 1, TOP: 3}), ("folder", {5: 1, TOP: 3, 1: 38}),
                    ("folder", {5: 1, TOP: 3, 0: 39}), ("folder", {5: 1, TOP + 1: 3, 1: 39}),
                    ("folder", {5: 1, TOP: 3, -1: 39}), ("folder", {5: 1, TOP: 3, 1: 39, 2: 39}),
                    ("folder", {5: 1, TOP: 3, 1: 39, 2: 0}), ("folder", {5: 1, TOP: 3, 1: 39, 2: 2}),
                    ("folder", {5: 1, TOP: 3, 1: 39, 2: 40}), ("folder", {5: 1, TOP: 3, 1: 39, 2: -1}),
                    ("folder", {5: 1, TOP: 3, 1: 39, 2: 4}))),
    (("nodes", 1), (("folder", {}), ("folder", {5: 2, 6: 2}), ("folder", {5: 2, 6: 0}), ("folder", {5: 2, 6: 1}),
                    ("file", []), ("folder", []), ("box", {}), ("folder", {5: 2, 6: 39}))),
    (("nodes", 2), (("folder", {1: 1}), ("folder", {1: 2}), ("folder", {1: 0}))),
    (("nodes", 3), (("file", [0] * 65), ("file", [TOP + 1]), ("file", [-1]), ("file", (1,)), ("file", {}), ("folder", {1: 4}))),
    (("nodes",), ({},)),
    (("nodes", 40), (("file", []),)),
    (("nodes", -1), (("file", []),)),
    (("nodes", 4), (("file", []), ("folder", {}), ("folder", {1: 4}))),
    (("boxes", 1), ((0, []), (9, []), (-1, []), (8, [0] * 9), (1, [0, 0]), (8, [TOP + 1]), (8, [-1]), (8, ()), (8,))),
    (("boxes", 2), ((3, [4, 5]), (2, [4]), (2, []))),
    (("boxes", 15), ((1, [0]),)),
    (("boxes", 0), ((1, []),)),
    (("boxes", 16), ((1, []),)),
    (("boxes",), ({1: (8, [1] * 7), 2: (2, [4, 5])}, {2: (2, [4, 5]), 1: (1, [])})),
    (("tasks", 0), (task(),)),
    (("tasks", 16), (task(),)),
    (("tasks", 11), (task(parent=12), task(parent=2), None)),
)
# Parts with which the state of `seventh` is still one.
STILL = (
    (("clock",), (10, 2 ** 70)),
    (("tasks", 1, "saved"), (None,)),
    (("tasks", 1, "rung"), (False,)),
    (("tasks", 1, "handles"), ({}, {7: 39}, {n: 2 for n in range(1, 8)})),
    (("tasks", 1, "parent"), (0, 15, 9, 10)),
    (("tasks", 1, "waits"), (None, ("take", 15, 1), ("send", 2, TOP, 1))),
    (("tasks", 2, "waits"), (None, ("ended", 0))),
    (("tasks", 10, "waits"), (("ended", 5),)),
    (("tasks", 15, "waits"), (None, ("take", 15, 7))),
    (("boxes", 1), ((8, []), (1, []), (8, [TOP] * 8))),
    (("tasks", 11), (task(parent=10), task(parent=15))),
)


class PlainWrong(unittest.TestCase):
    def wrong(self, thing, why=None):
        told = kept(self, plain_wrong, thing)
        self.assertIsInstance(told, str, why)
        self.assertNotEqual(told, "")

    def test_good_states(self):
        for world in good_states():
            self.assertIsNone(kept(self, plain_wrong, world))

    def test_things_that_are_no_state(self):
        for thing in NO_STATES:
            self.assertIsInstance(plain_wrong(thing), str, thing)

    def test_parts_of_other_kinds(self):
        for world in (seventh(), good_states()[9], good_states()[6]):
            for thing in bends(world):
                self.assertIsInstance(plain_wrong(thing), str, thing)

    def test_bent_states(self):
        for path, parts in BENT:
            for part in parts:
                self.wrong(changed(seventh(), path, part), (path, part))

    def test_states_that_are_still_good(self):
        for path, parts in STILL:
            for part in parts:
                self.assertIsNone(plain_wrong(changed(seventh(), path, part)), (path, part))

    def test_bounds_of_small_states(self):
        self.wrong(state({}, clock=-1))
        self.wrong(state({}, nodes={0: ("file", [])}))
        self.wrong(state({}, nodes={}))
        self.wrong(state({1: task(pages={0: ("lent", 0)})}, lent={0: NOUGHTS}))
        self.wrong(state({1: task(pages={0: ("lent", -1)})}, lent={-1: NOUGHTS}))
        self.wrong(state({1: task(waits=("send", 1, 0, -1))}, boxes={1: (1, [0])}, clock=2))
        self.assertIsNone(plain_wrong(state({1: task(waits=("send", 1, 0, 0))}, boxes={1: (1, [0])}, clock=1)))

        self.assertIsNone(plain_wrong(state({1: task(waits=("take", 1, 0))}, boxes={1: (1, [])}, clock=1)))
        self.assertIsNone(plain_wrong(state({1: task(pages={0: ("lent", 1)})}, lent={1: NOUGHTS})))
        for node, good in ((1, True), (39, True), (40, False), (-1, False)):
            told = plain_wrong(state({}, nodes={0: ("folder", {1: node}), node: ("file", [])}))
            self.assertEqual(told is None, good, node)

    def test_thirty_three_names(self):
        world = good_states()[4]
        folder = {name: 32 + name for name in range(1, 8)}
        self.assertIsNone(plain_wrong(world))
        self.wrong(changed(world, ("nodes", 0), ("folder", {**world["nodes"][0][1], 33: 33})))
        spread = {**world["nodes"], 0: ("folder", {**world["nodes"][0][1], 33: 33}),
                  32: ("folder", {name: node for name, node in folder.items() if node != 33})}
        self.wrong({**world, "nodes": spread})

    def test_a_ring_away_from_the_root(self):
        self.wrong(state({}, nodes={0: ("folder", {}), 1: ("folder", {1: 2}), 2: ("folder", {1: 1})}))
        self.wrong(state({}, nodes={0: ("folder", {1: 3}), 1: ("folder", {1: 2}), 2: ("folder", {1: 1}), 3: ("file", [])}))

    def test_rings_of_elders(self):
        self.wrong(state({1: task(parent=1)}))
        self.wrong(state({1: task(parent=2), 2: task(parent=1), 3: task()}))
        self.wrong(state({1: task(parent=2), 2: task(parent=3), 3: task(parent=1), 4: task(parent=1)}))
        line = {number: task(parent=number - 1) for number in range(1, 16)}
        self.assertIsNone(plain_wrong(state(line)))
        line[1] = task(parent=15)
        self.wrong(state(line))

    def test_who_waits_for_children(self):
        child = task(parent=1)
        gone = task(parent=1, waits=("ended", 3))
        for others, good in (({2: child}, True), ({}, False), ({2: gone}, False), ({2: child, 3: gone}, False),
                             ({2: child, 3: child}, True), ({2: task()}, False)):
            told = plain_wrong(state({1: task(waits=("child",)), **others}))
            self.assertEqual(told is None, good, others)

    def test_ended_parents(self):
        self.wrong(state({1: task(), 2: task(parent=1, waits=("ended", 0)), 3: task(parent=2)}))


class Others(unittest.TestCase):
    def test_told_answers(self):
        told = [plainstates.BAD, plainstates.LACK, plainstates.HELD, plainstates.NONE, plainstates.BELL]
        self.assertEqual(told, [2 ** 32 - 1, 2 ** 32 - 2, 2 ** 32 - 3, 2 ** 32 - 4, 2 ** 32 - 5])
        self.assertEqual(told, [BAD, LACK, HELD, NONE, BELL])

    def test_new_plain(self):
        self.assertEqual(new_plain(), state({}))
        self.assertIsNone(plain_wrong(new_plain()))
        first = new_plain()
        first["tasks"][1] = task()
        first["nodes"][0][1][1] = 1
        self.assertEqual(new_plain(), state({}))

    def test_is_ready(self):
        world = seventh()
        before = copy.deepcopy(world)
        for number in range(-1, 18):
            self.assertIs(is_ready(world, number), number in (1, 10), number)
        for thing in (None, True, False, "1", 1.0, [], [1], (1,), {}, {1: 1}):
            self.assertIs(is_ready(world, thing), False, thing)
        self.assertEqual(world, before)
        self.assertFalse(is_ready(state(many_tasks(3, waits=("ended", 0))), 2))


if __name__ == "__main__":
    unittest.main()
