"""Promises 10.1 to 10.3: turns, who is next, and that nobody who is ready waits longer than the bound."""

import random
import unittest

from bending import kept
from underfloor import turns as module
from underfloor.turns import made_ready, next_turn, no_turns, rows_of, standing, taken_out


def mixed():
    return ([(1, 0), (2, 7)], [(3, 3)], [], [(4, 7), (5, 2), (6, 7)], [(7, 8), (8, 8)])


class Turns(unittest.TestCase):
    def test_no_turns(self):
        self.assertEqual(no_turns(), ([], [], [], [], []))
        self.assertIsInstance(no_turns(), tuple)
        no_turns()[0].append(1)
        self.assertEqual(no_turns(), ([], [], [], [], []))

    def test_bound(self):
        self.assertEqual(module.BOUND, 23)

    def test_rows_of(self):
        self.assertEqual([rows_of(rank) for rank in range(4)], [4, 8, 12, 16])

    def test_made_ready(self):
        for rank in range(4):
            wanted = tuple(row + [(9, 0)] if place == rank else row for place, row in enumerate(mixed()))
            self.assertEqual(kept(self, made_ready, mixed(), 9, rank), wanted)

    def test_made_ready_of_one_that_stands_in_a_list(self):
        self.assertEqual(kept(self, made_ready, mixed(), 2, 0), ([(1, 0), (2, 0)],) + mixed()[1:])
        self.assertEqual(made_ready(mixed(), 1, 0), ([(2, 7), (1, 0)],) + mixed()[1:])
        self.assertEqual(made_ready(mixed(), 4, 2), mixed()[:2] + ([(4, 0)], [(5, 2), (6, 7)]) + mixed()[4:])
        self.assertEqual(made_ready(mixed(), 8, 3), mixed()[:3] + (mixed()[3] + [(8, 0)], [(7, 8)]))

    def test_taken_out(self):
        wanted = {1: ([(2, 7)],) + mixed()[1:], 3: mixed()[:1] + ([],) + mixed()[2:], 9: mixed(),
                  5: mixed()[:3] + ([(4, 7), (6, 7)],) + mixed()[4:], 7: mixed()[:4] + ([(8, 8)],)}
        for task, turns in wanted.items():
            self.assertEqual(kept(self, taken_out, mixed(), task), turns)
        self.assertEqual(taken_out(no_turns(), 1), no_turns())

    def test_standing(self):
        wanted = {1: (0, 0, 0), 2: (0, 1, 7), 3: (1, 0, 3), 4: (3, 0, 7), 6: (3, 2, 7), 7: (4, 0, 8), 8: (4, 1, 8), 9: None}
        for task, stands in wanted.items():
            self.assertEqual(kept(self, standing, mixed(), task), stands)
        self.assertIsNone(standing(no_turns(), 1))

    def test_next_of_none(self):
        self.assertEqual(kept(self, next_turn, no_turns()), (no_turns(), None))

    def test_next_of_the_fifth_list(self):
        told, task = kept(self, next_turn, mixed())
        self.assertEqual(task, 7)
        self.assertEqual(told, ([(1, 1)], [(3, 4)], [], [(5, 3)], [(8, 8), (4, 8), (6, 8), (2, 8)]))

    def test_next_of_the_greatest_rank(self):
        turns = ([(1, 5)], [(2, 6), (3, 7)], [(4, 7), (5, 0)], [], [])
        told, task = kept(self, next_turn, turns)
        self.assertEqual((told, task), (([(1, 6)], [(2, 7)], [(5, 1)], [], [(3, 8)]), 4))
        told, task = next_turn(told)
        self.assertEqual((told, task), (([(1, 7)], [], [(5, 2)], [], [(2, 8)]), 3))
        told, task = next_turn(told)
        self.assertEqual((told, task), (([], [], [(5, 3)], [], [(1, 8)]), 2))
        told, task = next_turn(told)
        self.assertEqual((told, task), (([], [], [(5, 4)], [], []), 1))
        self.assertEqual(next_turn(told), (no_turns(), 5))

    def test_order_of_those_that_come_to_eight_at_once(self):
        turns = ([(1, 7), (2, 7)], [(3, 7), (4, 6)], [(5, 7)], [(9, 0), (6, 7), (7, 7)], [])
        told, task = next_turn(turns)
        self.assertEqual((told, task), (([], [(4, 7)], [], [], [(6, 8), (7, 8), (5, 8), (3, 8), (1, 8), (2, 8)]), 9))

    def test_one_alone(self):
        turns = made_ready(no_turns(), 3, 0)
        self.assertEqual(next_turn(turns), (no_turns(), 3))

    def test_passed_up_to_eight(self):
        turns = made_ready(made_ready(no_turns(), 1, 0), 2, 3)
        for times in range(1, 9):
            turns, task = next_turn(turns)
            self.assertEqual(task, 2)
            self.assertEqual(standing(turns, 1), (0, 0, times) if times < 8 else (4, 0, 8))
            turns = made_ready(turns, 2, 3)
        self.assertEqual(next_turn(turns)[1], 1)


class Bound(unittest.TestCase):
    def run_turns(self, seed, many, plan):
        chance = random.Random(seed)
        turns, ranks, waited = no_turns(), {}, {}
        for turn in range(many):
            turns = plan(chance, turns, ranks, waited)
            ready = sorted(waited)
            self.assertEqual(sorted(task for row in turns for task, passed in row), ready)
            turns, task = next_turn(turns)
            if not ready:
                self.assertIsNone(task)
                continue
            for other in ready:
                waited[other] += 1
                self.assertLessEqual(waited[other], module.BOUND)
            waited.pop(task)

    def comes_and_goes(self, chance, turns, ranks, waited):
        for task in chance.sample(range(1, 16), chance.randrange(15)):
            if task not in waited:
                ranks[task] = chance.choice((0, 1, 2, 3, 3, 3))
                turns = made_ready(turns, task, ranks[task])
                waited[task] = 0
            elif chance.random() < 0.02:
                turns = taken_out(turns, task)
                waited.pop(task)
        return turns

    def always_fifteen(self, chance, turns, ranks, waited):
        for task in range(1, 16):
            if task not in waited:
                turns = made_ready(turns, task, 0 if task == 1 else 3)
                waited[task] = 0
        return turns

    def test_whoever_comes_and_goes(self):
        for seed in range(40):
            self.run_turns(seed, 300, self.comes_and_goes)

    def test_fourteen_of_a_greater_rank(self):
        self.run_turns(0, 500, self.always_fifteen)


if __name__ == "__main__":
    unittest.main()
