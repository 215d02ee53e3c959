"""Promises 13.1 and 13.2: beginnings, and steps, turns and bells of pairs."""

import random
import unittest

from bending import kept
from kernelworlds import ready_ones, worlds
from plainworlds import BELL, NOUGHTS, TOP, state, task
from programs import BELLS, FILES, LETTERS, RANKS, call
from slotworlds import boxes_of, slot, slots_of
from test_tyings import three
from underfloor.errors import NoState, NoTask
from underfloor.pairs import begun, pair_ring, pair_step, pair_turn
from underfloor.steps import kernel_step, kernel_turn, plain_step
from underfloor.texts import read_code
from underfloor.trees import new_floor
from underfloor.tyings import carried, tied


class Begun(unittest.TestCase):
    def test_word_for_word(self):
        words = list(range(1, 18))
        kernel, plain, tying = kept(self, begun, words, 5, 33)
        pages = [tuple(range(1, 17)), (17,) + NOUGHTS[1:]]
        memory = {"frames": pages + [NOUGHTS] * 3, "held": [1, 1, 0, 0, 0], "lent": {},
                  "tables": {1: {0: (0, "own"), 1: (1, "own")}}}
        self.assertEqual(kernel, {"memory": memory, "slots": slots_of({1: slot()}), "boxes": boxes_of({}),
                                  "floor": new_floor(33), "turns": ([], [(1, 0)], [], [], [])})
        self.assertEqual(plain, state({1: task(pages={0: ("own", pages[0]), 1: ("own", pages[1])})}))
        self.assertEqual(tying, {0: 17})

    def test_bounds(self):
        for many, frames, blocks in ((1, 4, 32), (1, 64, 200), (16, 4, 32), (64, 4, 33), (65, 5, 200), (256, 16, 32), (255, 16, 32),
                                     (256, 64, 200), (241, 16, 32), (240, 15, 32)):
            pair = begun([TOP] * many, frames, blocks)
            self.assertIsInstance(pair, tuple)
            self.assertIsNone(tied(*pair))
            self.assertEqual(len(pair[1]["tasks"][1]["pages"]), -(-many // 16))

    def test_no_state(self):
        for words, frames, blocks in (
                ([], 4, 32), ([0] * 257, 64, 200), ([TOP + 1], 4, 32), ([-1], 4, 32), ([True], 4, 32), (["0"], 4, 32), ([None], 4, 32),
                ([0.0], 4, 32), ((0,), 4, 32), ("0", 4, 32), (None, 4, 32), (0, 4, 32), ({0: 0}, 4, 32), (True, 4, 32),
                ([0], 3, 32), ([0], 65, 32), ([0], -1, 32), ([0], 4, 31), ([0], 4, 201), ([0], 4, 0), ([0], 4.0, 32), ([0], "4", 32),
                ([0], None, 32), ([0], True, 32), ([0], [], 32), ([0], 4, None), ([0], 4, "32"), ([0], 4, True), ([0], 4, (32,)),
                ([0] * 65, 4, 32), ([0] * 256, 15, 32), ([0] * 241, 15, 32), ([[0]], 4, 32)):
            with self.assertRaises(NoState, msg=(words, frames, blocks)):
                kept(self, begun, words, frames, blocks)


class Pairs(unittest.TestCase):
    def check(self, pair):
        self.assertIsNone(tied(*pair))
        return pair

    def run_turns(self, text, frames, blocks, most=2000):
        """Turns until nobody is ready; the pair, and whose turns they were."""
        pair = self.check(begun(read_code(text), frames, blocks))
        seen = []
        while len(seen) < most:
            pair, steps = pair_turn(pair)
            self.check(pair)
            if not steps:
                break
            self.assertEqual({step[0] for step in steps}, {steps[0][0]})
            seen.append(steps[0][0])
        return pair, seen

    def test_step(self):
        pair = begun(read_code(FILES), 8, 40)
        for turn in range(100):
            kernel, plain, tying = pair
            if not ready_ones(plain):
                break
            told = kept(self, pair_step, pair, 1)
            step = kernel_step(kernel, 1)
            wanted = (step[0], plain_step(plain, 1, step[2])[0], carried(tying, step[3]))
            self.assertEqual(told, (wanted, step[1]))
            pair = self.check(told[0])
        self.assertEqual(pair[1]["tasks"], {})
        self.assertEqual(pair[1]["nodes"], {0: ("folder", {5: 1, 9: 2}), 1: ("file", [70]), 2: ("folder", {})})

    def test_turn(self):
        pair = begun(read_code(FILES), 8, 40)
        kernel, plain, tying = pair
        told = kept(self, pair_turn, pair)
        wanted, steps = kernel_turn(kernel)
        self.assertEqual((told[0][0], told[1], len(steps)), (wanted, steps, 8))
        for number, lacked, came in steps:
            plain = plain_step(plain, number, lacked)[0]
            tying = carried(tying, came)
        self.assertEqual(told[0][1:], (plain, tying))

    def test_nobody_is_ready(self):
        pair, seen = self.run_turns(call(0), 4, 32)
        self.assertEqual(seen, [1])
        self.assertEqual(kept(self, pair_turn, pair), (pair, []))

    def test_letters_come_once_in_order(self):
        pair = begun(read_code(LETTERS), 16, 32)
        stored, waits = None, []
        for turn in range(200):
            pair, steps = pair_turn(pair)
            self.check(pair)
            if not steps:
                break
            self.assertLessEqual(max(len(letters) for room, letters in pair[1]["boxes"].values()), 4)
            waits.extend(own["waits"][0] for own in pair[1]["tasks"].values() if own["waits"])
            if 1 in pair[1]["tasks"] and 13 in pair[1]["tasks"][1]["pages"]:
                stored = pair[1]["tasks"][1]["pages"][13][1]
        self.assertEqual(pair[1]["tasks"], {})
        self.assertEqual(stored[:9], tuple(range(9)))
        self.assertTrue({"send", "take", "child", "ended"} & set(waits))

    def test_ranks(self):
        pair, seen = self.run_turns(RANKS, 16, 32, 200)
        self.assertEqual({number: own["rank"] for number, own in pair[1]["tasks"].items()}, {1: 2, 2: 0, 3: 3})
        for number in (1, 2, 3):
            places = [place for place, who in enumerate(seen) if who == number][2:]
            self.assertLessEqual(max(after - place for place, after in zip(places, places[1:])), 23)

    def test_bells(self):
        pair = begun(read_code(BELLS), 16, 32)
        for bells in range(4):
            while ready_ones(pair[1]):
                pair = self.check(pair_turn(pair)[0])
            own = pair[1]["tasks"][1]
            self.assertEqual((own["waits"][:2], own["pages"][1][1][15]), (("take", 1), bells))
            pair = self.check(kept(self, pair_ring, pair, 1))
            self.assertEqual((pair[1]["tasks"][1]["waits"], pair[1]["tasks"][1]["regs"][0]), (None, BELL))

    def test_refused(self):
        pair = three()
        for thing in (0, 8, 16, -1, TOP, None, True, "1", 1.0, [], (1,), {}, set()):
            for deed in (pair_step, pair_ring):
                with self.assertRaises(NoTask, msg=thing):
                    kept(self, deed, pair, thing)
        for task_id in (2, 4, 7):
            with self.assertRaises(NoTask):
                kept(self, pair_step, pair, task_id)
        with self.assertRaises(NoTask):
            kept(self, pair_ring, pair, 7)
        for task_id in (1, 2, 3, 4, 5, 6):
            self.check(kept(self, pair_ring, pair, task_id))

    def test_pairs_at_random(self):
        for seed, kernel, plain, tying in worlds(40, 100000):
            chance = random.Random(seed)
            pair = (kernel, plain, tying)
            for turn in range(8):
                what = chance.choice(("step", "turn", "ring"))
                ready = ready_ones(pair[1])
                if what == "turn":
                    pair = pair_turn(pair)[0]
                elif ready and what == "step":
                    pair = pair_step(pair, chance.choice(ready))[0]
                elif ready:
                    pair = pair_ring(pair, chance.choice(ready))
                self.check(pair)


if __name__ == "__main__":
    unittest.main()
