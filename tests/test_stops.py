"""Promise 13.3: the writings of a step, and pairs stopped amid them and come up."""

import random
import unittest

from bending import changed, kept
from floorworlds import NOUGHTS
from kernelworlds import random_call, ready_ones, seen_tree, worlds
from plainworlds import TOP, state
from programs import FILES
from slotworlds import boxes_of, slots_of
from test_tyings import three
from underfloor.code import coded
from underfloor.errors import NoNumber, NoTask
from underfloor.floors import stopped, written
from underfloor.frames import new_memory
from underfloor.journals import come_up, sealed
from underfloor.pages import put_word_in
from underfloor.pairs import begun, pair_step
from underfloor.steps import kernel_step
from underfloor.stops import step_writings, stopped_pair
from underfloor.tables import stored
from underfloor.texts import read_code
from underfloor.turns import no_turns
from underfloor.tyings import tied

CHANGING = (11, 12, 13, 19, 20)


def calling(pair, who, words):
    """A pair whose task is about to do a call with these words; None where it has no page for the row."""
    kernel, plain, tying = pair
    pages = sorted(plain["tasks"][who]["pages"])
    if not pages:
        return None
    at = 16 * pages[0]
    plain = put_word_in(plain, who, at, coded(("call",)))
    kernel = {**kernel, "memory": stored(kernel["memory"], who, at, coded(("call",)))}
    news = {"regs": list(words) + [0] * 4, "row": at, "rung": False}
    kernel = changed(kernel, ("slots", who), {**kernel["slots"][who], **news})
    return kernel, changed(plain, ("tasks", who), {**plain["tasks"][who], **news}), tying


class Writings(unittest.TestCase):
    def test_writings_of_a_program(self):
        pair = begun(read_code(FILES), 8, 40)
        many = []
        while ready_ones(pair[1]):
            kernel = pair[0]
            writings = kept(self, step_writings, kernel, 1)
            behind, told = pair_step(pair, 1)
            if writings:
                self.assertEqual(told[0], "call")
                many.append(told[1])
                count = len(writings) // 2 - 1
                self.assertEqual(writings, sealed(kernel["floor"], writings[count + 1:-1]))
                self.assertEqual(writings[-1], (0, NOUGHTS))
            self.assertEqual(written(kernel["floor"], writings), behind[0]["floor"])
            pair = behind
        self.assertEqual(many, [12, 11, 19, 19, 12, 20, 13])

    def test_word_for_word(self):
        pair = calling(begun([0] * 16, 4, 32), 1, (12, 0, 5, 0))
        padded = lambda *words: tuple(words) + (0,) * (16 - len(words))
        change = [(15, padded(1, 1, 1)), (16, padded(2, 1, 18)), (17, padded(1)), (18, padded(5, 17))]
        total = 3 + 2 + 1 + 18 + 1 + 5 + 17
        copies = [(place + 1, block) for place, (number, block) in enumerate(change)]
        seal = (0, padded(1, 4, total, 15, 16, 17, 18))
        self.assertEqual(step_writings(pair[0], 1), copies + [seal] + change + [(0, NOUGHTS)])

    def test_calls_that_change_nothing(self):
        pair = begun(read_code(FILES), 8, 40)
        while len(pair[1]["nodes"]) < 2 or not pair[1]["tasks"][1]["handles"]:
            pair = pair_step(pair, 1)[0]
        for words in ((12, 0, 5, 0), (12, 0, 0, 0), (13, 0, 5, 0), (13, 0, 4, 0), (20, 1, 0, 0), (19, 1, 1, 1), (19, 0, 0, 0),
                      (14, 0, 5, 0), (16, 0, 0, 0), (4, 1, 0, 0), (0, 1, 0, 0), (1, 0, 0, 0), (21, 9, 0, 0), (99, 0, 0, 0)):
            self.assertEqual(kept(self, step_writings, calling(pair, 1, words)[0], 1), [], words)
        for words in ((12, 0, 6, 0), (19, 1, 0, 0), (11, 0, 6, 0)):
            self.assertNotEqual(step_writings(calling(pair, 1, words)[0], 1), [], words)

    def test_handler_is_entered_first(self):
        kernel, plain, tying = calling(begun([0] * 16, 4, 32), 1, (12, 0, 5, 0))
        kernel = changed(kernel, ("slots", 1), {**kernel["slots"][1], "rung": True, "handler": 1})
        self.assertEqual(step_writings(kernel, 1), [])
        kernel = changed(kernel, ("slots", 1), {**kernel["slots"][1], "rung": True, "handler": 0})
        self.assertEqual(len(step_writings(kernel, 1)), 10)

    def test_no_task(self):
        for thing in (0, 2, 4, 7, 8, 16, -1, None, True, "1", 1.0, [], (1,), {}, set()):
            with self.assertRaises(NoTask, msg=thing):
                kept(self, step_writings, three()[0], thing)


class Stopped(unittest.TestCase):
    def check(self, pair, who):
        """The pair stopped behind each number of its step's writings."""
        kernel, plain, tying = pair
        writings = step_writings(kernel, who)
        behind = pair_step(pair, who)[0]
        count = len(writings) // 2 - 1 if writings else 0
        for many in range(len(writings) + 1):
            told = kept(self, stopped_pair, pair, who, many)
            self.assertIsInstance(told, tuple)
            self.assertIsNone(tied(*told), many)
            left = pair if many <= count else behind
            floor = come_up(stopped(kernel["floor"], writings, many))
            wanted = {"memory": new_memory(len(kernel["memory"]["frames"])), "slots": slots_of({}), "boxes": boxes_of({}),
                      "floor": floor, "turns": no_turns()}
            self.assertEqual(told, (wanted, state({}, nodes=left[1]["nodes"]), left[2]))
            self.assertEqual(seen_tree(floor), seen_tree(left[0]["floor"]))
        for many in (len(writings) + 1, len(writings) + 7, -1, TOP, None, True, False, "0", 0.0, [], (), {}):
            with self.assertRaises(NoNumber, msg=many):
                kept(self, stopped_pair, pair, who, many)
        return len(writings)

    def test_each_step_of_a_program(self):
        pair = begun(read_code(FILES), 8, 40)
        while ready_ones(pair[1]):
            self.check(pair, 1)
            pair = pair_step(pair, 1)[0]

    def test_calls_at_random(self):
        changing = 0
        for seed, kernel, plain, tying in worlds(120, 110000):
            chance = random.Random(seed)
            for who in ready_ones(plain)[:2]:
                number = chance.choice(CHANGING)
                pair = calling((kernel, plain, tying), who, (number,) + random_call(chance, plain, number, who))
                if pair is not None:
                    self.assertIsNone(tied(*pair))
                    changing += 1 if self.check(pair, who) else 0
        self.assertGreater(changing, 20)

    def test_no_task_ahead_of_no_number(self):
        for thing in (0, 2, 4, 7, 8, 16, -1, None, True, "1", 1.0, [], (1,), {}, set()):
            for many in (0, 1, -1, None, "0"):
                with self.assertRaises(NoTask, msg=thing):
                    kept(self, stopped_pair, three(), thing, many)

    def test_what_was_done_ahead_stands(self):
        pair = begun(read_code(FILES), 8, 40)
        trees = [seen_tree(pair[0]["floor"])]
        while ready_ones(pair[1]):
            for many in range(len(step_writings(pair[0], 1)) + 1):
                tree = seen_tree(stopped_pair(pair, 1, many)[0]["floor"])
                self.assertIn(tree, (trees[-1], seen_tree(kernel_step(pair[0], 1)[0]["floor"])))
            pair = pair_step(pair, 1)[0]
            trees.append(seen_tree(pair[0]["floor"]))


if __name__ == "__main__":
    unittest.main()
