"""Promises 4.2, 4.5, 4.6, 4.8 and 4.9: calls 0 to 10 of the plain machine, ends, bells, and lacks."""

import unittest

from bending import kept
from plainworlds import BAD, BELL, LACK, NONE, NOUGHTS, RISING, TOP, many_tasks, regs, seventh, state, task
from underfloor.errors import NoLack
from underfloor.plaincalls import plain_bell, plain_call, plain_end, rung_plain
from underfloor.plainstates import plain_wrong

OWN = [11, 12, 13, 14, 15, 16, 17, 18]


def told_regs(answer, second=12):
    return [answer, second] + OWN[2:]


def with_task(world, number, **news):
    return {**world, "tasks": {**world["tasks"], number: {**world["tasks"][number], **news}}}


def without(world, *numbers):
    return {**world, "tasks": {number: own for number, own in world["tasks"].items() if number not in numbers}}


class Calls(unittest.TestCase):
    def call(self, world, number, a=0, b=0, c=0, who=1):
        self.assertIsNone(plain_wrong(world))
        told = kept(self, plain_call, world, who, number, a, b, c)
        self.assertIsNone(plain_wrong(told))
        return told

    def tells(self, world, parts, answer, second=12):
        """Nothing but the answer changes."""
        self.assertEqual(self.call(world, *parts), with_task(world, 1, regs=told_regs(answer, second)), parts)


class Other(Calls):
    def test_numbers_that_are_none(self):
        for number in (25, 26, 255, 2 ** 16, TOP):
            self.tells(state({1: task(regs=OWN)}), (number, 1, 1, 1), BAD)
            self.tells(state({1: task(regs=OWN, pages={0: ("lent", 1)})}, lent={1: RISING}), (number, 1, 1, 1), BAD)

    def test_memory_calls_answer_into_r0(self):
        world = state({1: task(regs=OWN)})
        told = self.call(world, 21, 4095)
        self.assertEqual(told, with_task(world, 1, regs=told_regs(0), pages={4095: ("own", NOUGHTS)}))
        self.assertEqual(self.call(told, 23, 4095), {
            **with_task(world, 1, regs=told_regs(1), pages={4095: ("lent", 1)}), "lent": {1: NOUGHTS}})
        held = state({1: task(regs=OWN), 2: task(pages={0: ("lent", 1)})}, lent={1: RISING})
        told = self.call(held, 24, 1, 5)
        self.assertEqual(told, with_task(held, 1, regs=told_regs(0), pages={5: ("lent", 1)}))
        self.assertEqual(self.call(told, 22, 5), with_task(held, 1, regs=told_regs(0)))
        self.tells(world, (21, 4096), BAD)
        self.tells(world, (22, 0), BAD)
        self.tells(world, (23, 0), BAD)
        self.tells(world, (24, 1, 0), BAD)

    def test_rank(self):
        for rank in range(4):
            world = state({1: task(regs=OWN, rank=1)})
            self.assertEqual(self.call(world, 3, rank), with_task(world, 1, regs=told_regs(0), rank=rank))
        for rank in (4, TOP):
            self.tells(state({1: task(regs=OWN)}), (3, rank), BAD)

    def test_handler(self):
        for handler in (0, 1, TOP):
            for saved in (None, ([3] * 8, 4)):
                world = state({1: task(regs=OWN, handler=7, rung=True, saved=saved)})
                self.assertEqual(self.call(world, 8, handler), with_task(world, 1, regs=told_regs(0), handler=handler))

    def test_back(self):
        world = state({1: task(regs=OWN, row=9, saved=([3] * 8, TOP), rung=True, handler=5)})
        self.assertEqual(self.call(world, 10, 1, 1, 1), with_task(world, 1, regs=[3] * 8, row=TOP, saved=None))
        for handler in (0, 5):
            self.tells(state({1: task(regs=OWN, handler=handler, rung=True)}), (10,), BAD)


class Parting(Calls):
    def test_part(self):
        one = task(regs=OWN, row=77, rank=3, parent=2, handler=9, rung=True, saved=([3] * 8, 4), handles={2: 0, 7: 0},
                   pages={0: ("own", RISING), 4095: ("lent", 3)})
        world = state({1: one, 2: task(), 4: task()}, lent={3: NOUGHTS})
        told = self.call(world, 1, 5, 6, 7)
        wanted = with_task(world, 1, regs=told_regs(3))
        wanted["tasks"][3] = {**one, "regs": told_regs(0), "parent": 1, "rung": False}
        self.assertEqual(told, wanted)

    def test_part_out_of_no_handler(self):
        told = self.call(state({5: task(regs=OWN)}), 1, who=5)
        self.assertEqual(told["tasks"], {5: task(regs=told_regs(1)), 1: task(regs=told_regs(0), parent=5)})

    def test_least_free_id(self):
        for taken, free in (((1, 2, 3), 4), ((1, 3, 15), 2), (range(1, 15), 15), ([1] + list(range(3, 16)), 2)):
            told = self.call(state({number: task() for number in taken}), 1)
            self.assertEqual(told["tasks"][1]["regs"][0], free)
            self.assertEqual(told["tasks"][free]["parent"], 1)

    def test_no_free_id(self):
        world = state(many_tasks(15, regs=OWN))
        self.tells(world, (1,), LACK)
        world = with_task(with_task(world, 2, waits=("ended", 1), parent=1), 3, parent=1)
        self.tells(world, (1,), LACK)

    def test_wait_without_children(self):
        self.tells(state({1: task(regs=OWN)}), (2,), NONE)
        self.tells(state({1: task(regs=OWN), 2: task(), 3: task(parent=2)}), (2,), NONE)

    def test_wait_with_children_that_run(self):
        world = state({1: task(regs=OWN), 2: task(parent=1), 3: task(parent=2, waits=("ended", 0))}, clock=4)
        self.assertEqual(self.call(world, 2), with_task(world, 1, waits=("child",)))

    def test_wait_with_children_that_ended(self):
        gone = task(parent=1, waits=("ended", TOP))
        world = state({1: task(regs=OWN), 2: task(parent=1), 7: gone, 5: task(parent=1, waits=("ended", 9)),
                       3: task(parent=2, waits=("ended", 0))})
        self.assertEqual(self.call(world, 2), without(with_task(world, 1, regs=told_regs(5, 9)), 5))
        world = without(world, 5)
        self.assertEqual(self.call(world, 2), without(with_task(world, 1, regs=told_regs(7, TOP)), 7))


class Boxes(Calls):
    def test_box(self):
        for taken, room, free in (((), 1, 1), ((), 8, 1), ((1, 2, 4), 3, 3), (range(1, 15), 8, 15)):
            world = state({1: task(regs=OWN)}, boxes={number: (1, [5]) for number in taken})
            wanted = {**world, "boxes": {**world["boxes"], free: (room, [])}}
            self.assertEqual(self.call(world, 4, room), with_task(wanted, 1, regs=told_regs(free)))

    def test_box_refused(self):
        full = state({1: task(regs=OWN)}, boxes={number: (1, []) for number in range(1, 16)})
        for room in (0, 9, TOP):
            self.tells(state({1: task(regs=OWN)}), (4, room), BAD)
            self.tells(full, (4, room), BAD)
        for room in (1, 8):
            self.tells(full, (4, room), LACK)

    def test_no_such_box(self):
        world = state({1: task(regs=OWN)}, boxes={3: (1, []), 15: (1, [7])})
        for number in (5, 6, 7):
            for box in (0, 1, 2, 4, 14, 16, TOP):
                self.tells(world, (number, box, 7), BAD)

    def test_send_into_room(self):
        for ahead in ([], [1], [1, 2]):
            world = state({1: task(regs=OWN)}, boxes={3: (3, ahead), 4: (1, [])})
            wanted = {**world, "boxes": {3: (3, ahead + [TOP]), 4: (1, [])}}
            self.assertEqual(self.call(world, 5, 3, TOP), with_task(wanted, 1, regs=told_regs(0)))

    def test_send_into_a_full_box(self):
        for room in (1, 8):
            world = state({1: task(regs=OWN)}, boxes={3: (room, [7] * room)}, clock=5)
            wanted = {**with_task(world, 1, waits=("send", 3, 9, 5)), "clock": 6}
            self.assertEqual(self.call(world, 5, 3, 9), wanted)
            again = {**with_task(wanted, 1, waits=None)}
            self.assertEqual(self.call(again, 5, 3, 8)["tasks"][1]["waits"], ("send", 3, 8, 6))

    def takers(self):
        others = {number: task(regs=OWN, waits=("take", 2, since)) for number, since in ((5, 9), (4, 3), (9, 4))}
        others.update({3: task(waits=("take", 6, 0)), 7: task(waits=("child",)), 8: task(parent=7), 6: task(parent=8)})
        others[10] = task(parent=8, waits=("ended", 2))
        return state({1: task(regs=OWN), **others}, boxes={2: (2, []), 6: (1, [])}, clock=11)

    def test_send_where_tasks_wait_to_take(self):
        world = self.takers()
        for who in (4, 9, 5):
            told = self.call(world, 5, 2, 70 + who)
            wanted = with_task(with_task(world, 1, regs=told_regs(0)), who, regs=told_regs(0, 70 + who), waits=None)
            self.assertEqual(told, wanted)
            world = with_task(told, 1, regs=OWN)
        self.assertEqual(self.call(world, 5, 2, 8)["boxes"], {2: (2, [8]), 6: (1, [])})

    def test_take_where_nobody_waits(self):
        for letters in ([4], [4, 5], [TOP] * 3):
            world = state({1: task(regs=OWN)}, boxes={3: (3, letters), 4: (1, [])})
            wanted = {**world, "boxes": {3: (3, letters[1:]), 4: (1, [])}}
            self.assertEqual(self.call(world, 6, 3), with_task(wanted, 1, regs=told_regs(0, letters[0])))

    def test_take_from_an_empty_box(self):
        world = self.takers()
        self.assertEqual(self.call(world, 6, 2), {**with_task(world, 1, waits=("take", 2, 11)), "clock": 12})

    def senders(self):
        others = {number: task(regs=OWN, waits=("send", 2, 70 + number, since)) for number, since in ((5, 9), (4, 3), (9, 4))}
        boxes = {2: (2, [1, 2]), 6: (1, [3])}
        others.update({3: task(waits=("send", 6, 5, 0)), 7: task(waits=("child",)), 8: task(parent=7)})
        others[10] = task(parent=8, waits=("ended", 2))
        return state({1: task(regs=OWN), **others}, boxes=boxes, clock=11)

    def test_take_where_tasks_wait_to_send(self):
        world = self.senders()
        letters = [1, 2]
        for who in (4, 9, 5):
            told = self.call(world, 6, 2)
            wanted = with_task(with_task(world, 1, regs=told_regs(0, letters[0])), who, regs=told_regs(0), waits=None)
            letters = letters[1:] + [70 + who]
            self.assertEqual(told, {**wanted, "boxes": {2: (2, letters), 6: (1, [3])}})
            world = with_task(told, 1, regs=OWN)
        self.assertEqual(self.call(world, 6, 2)["boxes"][2], (2, [75]))

    def test_send_where_tasks_wait_to_send(self):
        world = self.senders()
        self.assertEqual(self.call(world, 5, 2, 6), {**with_task(world, 1, waits=("send", 2, 6, 11)), "clock": 12})

    def test_shut(self):
        for world in (self.senders(), self.takers()):
            told = self.call(world, 7, 2, 5)
            wanted = with_task(world, 1, regs=told_regs(0))
            for who in (4, 5, 9):
                wanted = with_task(wanted, who, regs=told_regs(BAD), waits=None)
            self.assertEqual(told, {**wanted, "boxes": {6: world["boxes"][6]}})
        world = state({1: task(regs=OWN)}, boxes={3: (1, [2])})
        self.assertEqual(self.call(world, 7, 3), {**with_task(world, 1, regs=told_regs(0)), "boxes": {}})


class Ends(Calls):
    def end(self, world, who=1, code=7):
        self.assertIsNone(plain_wrong(world))
        told = kept(self, plain_end, world, who, code)
        self.assertEqual(kept(self, plain_call, world, who, 0, code, 5, 6), told)
        self.assertIsNone(plain_wrong(told))
        return told

    def test_without_a_parent(self):
        world = state({1: task(), 2: task(handles={1: 0})}, clock=3)
        self.assertEqual(self.end(world), without(world, 1))
        self.assertEqual(self.end(world, 2), without(world, 2))

    def test_with_a_parent_that_does_not_wait(self):
        one = task(parent=2, regs=OWN, row=8, rank=2, handler=4, rung=True, saved=([1] * 8, 2), handles={3: 0},
                   pages={0: ("own", RISING), 1: ("lent", 2), 2: ("lent", 3)})
        for waits in (None, ("take", 1, 0)):
            world = state({1: one, 2: task(waits=waits, pages={5: ("lent", 3)})}, lent={2: NOUGHTS, 3: RISING},
                          boxes={1: (1, [])}, clock=1)
            wanted = with_task(world, 1, handles={}, pages={}, rung=False, saved=None, waits=("ended", TOP))
            self.assertEqual(self.end(world, 1, TOP), {**wanted, "lent": {3: RISING}})

    def test_with_a_parent_that_waits(self):
        world = state({1: task(parent=2, regs=OWN), 2: task(regs=OWN, waits=("child",)), 3: task(parent=2)})
        self.assertEqual(self.end(world, 1, 0), without(with_task(world, 2, regs=told_regs(1, 0), waits=None), 1))
        self.assertEqual(self.end(world, 3, TOP), without(with_task(world, 2, regs=told_regs(3, TOP), waits=None), 3))

    def test_children(self):
        world = state({
            1: task(parent=9), 9: task(), 2: task(parent=1), 3: task(parent=1, waits=("ended", 5)), 4: task(parent=2),
            5: task(parent=1, waits=("child",)), 6: task(parent=5), 7: task(parent=9, waits=("ended", 5)),
            8: task(parent=1, waits=("ended", 6)),
        })
        wanted = with_task(with_task(with_task(world, 2, parent=0), 5, parent=0), 1, waits=("ended", 7))
        self.assertEqual(self.end(world), without(wanted, 3, 8))

    def test_children_and_no_parent(self):
        world = state({1: task(), 2: task(parent=1), 3: task(parent=1, waits=("ended", 5))})
        self.assertEqual(self.end(world), state({2: task()}))

    def test_last_of_all(self):
        self.assertEqual(self.end(state()), state({}))

    def test_child_of_a_parent_that_waits_has_children_itself(self):
        world = state({1: task(waits=("child",)), 2: task(parent=1), 3: task(parent=2), 4: task(parent=2, waits=("ended", 0))})
        told = self.end(world, 2, 5)
        self.assertEqual(told, state({1: task(regs=regs(2, 5)), 3: task()}))


class Bells(Calls):
    # What task 2 is ahead of the ring, and its news behind it.
    RINGS = (
        ({}, {}), ({"handler": 5}, {}), ({"saved": ([1] * 8, 1)}, {}), ({"rung": True}, {}),
        ({"waits": ("child",)}, {}), ({"waits": ("child",), "handler": 5, "saved": ([1] * 8, 1)}, {}),
        ({"waits": ("child",), "handler": 5}, {"waits": None, "regs": told_regs(BELL)}),
        ({"waits": ("child",), "handler": TOP, "rung": True}, {"waits": None, "regs": told_regs(BELL)}),
        ({"waits": ("take", 1, 0), "handler": 5}, {"waits": None, "regs": told_regs(BELL)}),
        ({"waits": ("take", 1, 0)}, {}),
        ({"waits": ("send", 2, 8, 1), "handler": 5}, {"waits": None, "regs": told_regs(BELL)}),
        ({"waits": ("send", 2, 8, 1), "saved": ([1] * 8, 1), "handler": 5}, {}),
    )

    def world(self, **news):
        tasks = {1: task(regs=OWN), 2: task(regs=OWN, **news), 3: task(parent=2)}
        return state(tasks, boxes={1: (1, []), 2: (1, [9])}, clock=2)

    def test_ring(self):
        for ahead, behind in self.RINGS:
            world = self.world(**ahead)
            wanted = with_task(world, 2, rung=True, **behind)
            self.assertEqual(kept(self, rung_plain, world, 2), wanted, ahead)
            self.assertEqual(self.call(world, 9, 2, 5, 5), with_task(wanted, 1, regs=told_regs(0)), ahead)

    def test_ring_of_oneself(self):
        for handler in (0, 5):
            world = state({1: task(regs=OWN, handler=handler)})
            self.assertEqual(self.call(world, 9, 1), with_task(world, 1, regs=told_regs(0), rung=True))

    def test_ring_bad(self):
        world = state({1: task(regs=OWN), 2: task(parent=1, waits=("ended", 0))})
        for number in (0, 2, 3, 15, 16, TOP):
            self.tells(world, (9, number), BAD)

    def test_entered(self):
        world = state({1: task(regs=OWN, row=8, handler=5, rung=True), 2: task(rung=True, handler=6)})
        wanted = with_task(world, 1, row=5, rung=False, saved=(OWN, 8))
        told = kept(self, plain_bell, world, 1)
        self.assertEqual(told, wanted)
        self.assertEqual(kept(self, plain_bell, told, 1), told)
        again = with_task(told, 1, rung=True, regs=[1] * 8)
        self.assertEqual(plain_bell(again, 1), again)
        back = self.call(again, 10)
        self.assertEqual(back, world)

    def test_not_entered(self):
        for news in ({}, {"rung": True}, {"handler": 5}, {"handler": 5, "rung": True, "saved": ([1] * 8, 2)},
                     {"handler": 5, "rung": True, "waits": ("child",)}):
            world = state({1: task(regs=OWN, **news), 2: task(parent=1)})
            told = kept(self, plain_bell, world, 1)
            self.assertEqual(told, world, news)
            self.assertIsNot(told, world)


class Lacks(unittest.TestCase):
    def test_told_at_calls_that_may_lack(self):
        for number in (1, 11, 12, 19, 21):
            for words in ((0, 1, 2), (TOP, TOP, TOP), (1, 0, 0), (3, 5, 7)):
                world = seventh()
                told = kept(self, lambda *parts: plain_call(*parts, lack=True), world, 1, number, *words)
                self.assertEqual(told, with_task(world, 1, regs=[LACK] + world["tasks"][1]["regs"][1:]))

    def test_told_at_others(self):
        others = [number for number in range(30) if number not in (1, 11, 12, 19, 21)]
        for number in others + [TOP]:
            with self.assertRaises(NoLack):
                kept(self, plain_call, seventh(), 1, number, 1, 1, 1, True)

    def test_not_told(self):
        world = state({1: task(regs=OWN)})
        self.assertEqual(plain_call(world, 1, 21, 0, 0, 0, False), plain_call(world, 1, 21, 0, 0, 0))
        self.assertEqual(plain_call(world, 1, 21, 0, 0, 0)["tasks"][1]["regs"], told_regs(0))


if __name__ == "__main__":
    unittest.main()
