"""Promise 0.3 over the whole program: random programs and states, both machines alike, others left alone, the bound."""

import random
import unittest

from bending import changed
from kernelworlds import random_call, random_row, ready_ones, worlds
from plainworlds import seventh, state, task
from test_plainstates import BENT as PLAIN_BENT
from test_tyings import BENT as TIED_BENT
from test_tyings import three
from underfloor.code import coded
from underfloor.kernelcalls import kernel_call
from underfloor.kernels import kernel_wrong
from underfloor.pairs import begun, pair_ring, pair_step, pair_turn
from underfloor.plaincalls import plain_call
from underfloor.plainstates import plain_wrong
from underfloor.stops import step_writings, stopped_pair
from underfloor.texts import read_code, shown_code
from underfloor.turns import BOUND
from underfloor.tyings import tied


def random_program(chance):
    """Words of code in which calls with words that are there come often."""
    rows = []
    for part in range(chance.randrange(5, 30)):
        if chance.random() < 0.6:
            number = chance.choice((1, 1, 2, 3, 4, 5, 6, 8, 9, 11, 12, 13, 14, 19, 20, 21, 22, 23, 24, 99))
            rows.append(("put", 0, number))
            handle = (0, 0, 0, 1) if 11 <= number <= 14 else (0, 1, 1, 2, 3, 5, 8)
            rows.append(("put", 1, chance.choice(handle)))
            rows.extend(("put", place, chance.choice((0, 1, 1, 2, 3, 5, 8))) for place in (2, 3))
            rows.append(("call",))
        else:
            rows.append(random_row(chance))
    return [coded(row) for row in rows][:200] + [coded(("jump", 0))]


class Programs(unittest.TestCase):
    def test_random_programs(self):
        for seed in range(80):
            chance = random.Random(seed)
            words = random_program(chance)
            self.assertEqual(read_code(shown_code(words)), words)
            pair = begun(words, chance.choice((16, 20, 40, 64)), chance.choice((32, 40, 100, 200)))
            waited = {1: 0}
            for turn in range(25):
                if chance.random() < 0.1 and pair[1]["tasks"]:
                    living = [n for n, own in pair[1]["tasks"].items() if not own["waits"] or own["waits"][0] != "ended"]
                    pair = pair_ring(pair, chance.choice(living))
                ahead = ready_ones(pair[1])
                pair, steps = pair_turn(pair)
                self.assertIsNone(tied(*pair), (seed, turn))
                if not steps:
                    self.assertEqual(ahead, [])
                    break
                # Who was ready ahead of this turn, and had none in the last ones, has it within the bound.
                waited = {number: waited.get(number, 0) + 1 for number in ahead}
                waited.pop(steps[0][0])
                waited = {number: many for number, many in waited.items() if number in ready_ones(pair[1])}
                self.assertLess(max(list(waited.values()) + [0]), BOUND)

    def test_stops_of_random_programs(self):
        for seed in range(15):
            chance = random.Random(seed)
            pair = begun(random_program(chance), 40, chance.choice((32, 40, 100)))
            for turn in range(60):
                ready = ready_ones(pair[1])
                if not ready:
                    break
                who = chance.choice(ready)
                for many in range(len(step_writings(pair[0], who)) + 1):
                    self.assertIsNone(tied(*stopped_pair(pair, who, many)))
                pair = pair_step(pair, who)[0]


class Others(unittest.TestCase):
    """No other task is other than before, but where a told call tells so."""

    def other(self, ahead, behind, number, told, words):
        if number not in behind["tasks"]:
            # Gone: a child that ended, of who waits for it or who ends.
            self.assertEqual(ahead["tasks"][number]["waits"][0], "ended")
            return
        before, after = ahead["tasks"][number], behind["tasks"][number]
        differ = {key for key in before if before[key] != after[key]}
        if told[0] == "row":
            self.assertEqual(differ, set())
        elif told[0] == "fault" or told[1] == 0:
            self.assertLessEqual(differ, {"parent", "waits", "regs"})
        elif told[1] == 9 and number == words[1]:
            self.assertLessEqual(differ, {"rung", "waits", "regs"})
        elif told[1] in (5, 6, 7):
            self.assertLessEqual(differ, {"waits", "regs"})
        else:
            self.assertEqual(differ, set())
        if "regs" in differ:
            self.assertIsNotNone(before["waits"])
            self.assertIsNone(after["waits"])
            self.assertEqual(before["regs"][2:], after["regs"][2:])

    def test_steps(self):
        for seed, kernel, plain, tying in worlds(100, 120000):
            chance = random.Random(seed)
            pair = (kernel, plain, tying)
            for who in ready_ones(plain):
                number = chance.randrange(25)
                words = (number,) + random_call(chance, plain, number, who)
                slots = list(kernel["slots"])
                slots[who] = {**slots[who], "regs": list(words) + slots[who]["regs"][4:]}
                tasks = {**plain["tasks"], who: {**plain["tasks"][who], "regs": slots[who]["regs"]}}
                pair = ({**kernel, "slots": slots}, {**plain, "tasks": tasks}, tying)
                behind, told = pair_step(pair, who)
                for number in plain["tasks"]:
                    if number != who:
                        self.other(pair[1], behind[1], number, told, words)
                self.assertIsNone(kernel_wrong(behind[0]))


def reordered(thing):
    """The same thing, the keys of each dict in the other order."""
    if isinstance(thing, dict):
        return {key: reordered(thing[key]) for key in reversed(list(thing))}
    if isinstance(thing, list):
        return [reordered(part) for part in thing]
    return tuple(reordered(part) for part in thing) if isinstance(thing, tuple) else thing


class Keys(unittest.TestCase):
    """Nothing hangs on the order of a dict's keys."""

    def test_calls_and_steps(self):
        for seed, kernel, plain, tying in worlds(40, 130000):
            chance = random.Random(seed)
            other = reordered((kernel, plain, tying))
            self.assertIsNone(tied(*other))
            for who in ready_ones(plain)[:3]:
                for number in range(25):
                    words = random_call(chance, plain, number, who)
                    told = kernel_call(kernel, who, number, *words)
                    self.assertEqual(kernel_call(other[0], who, number, *words), told)
                    self.assertEqual(plain_call(other[1], who, number, *words), plain_call(plain, who, number, *words))
                self.assertEqual(pair_step(other, who), pair_step((kernel, plain, tying), who))
            self.assertEqual(pair_turn(other), pair_turn((kernel, plain, tying)))

    def test_what_is_wrong(self):
        for path, parts in PLAIN_BENT:
            for part in parts:
                bent = {**changed(seventh(), path, part)}
                twice = changed(changed(bent, ("tasks", 12), task(rank=9)), ("tasks", 13), task(row=-1))
                for thing in (bent, twice):
                    self.assertEqual(plain_wrong(reordered(thing)), plain_wrong(thing))
        for path, parts in TIED_BENT:
            for part in parts:
                bent = changed(three(), path, part)
                self.assertEqual(tied(*reordered(bent)), tied(*bent))

    def test_two_things_wrong_at_once(self):
        nodes = {0: ("folder", {1: 1, 2: 1, 3: 9}), 1: ("folder", {4: 0})}
        both = state({1: task(waits=("ended", 0), handles={1: 0}), 2: task(waits=("ended", 0), rung=True)})
        waits = state({1: task(waits=("take", 1, 0)), 2: task(waits=("take", 2, 0)), 3: task(waits=("take", 2, 0))},
                      boxes={2: (1, [])}, clock=1)
        for thing in (state({}, nodes=nodes), both, waits):
            self.assertIsInstance(plain_wrong(thing), str)
            self.assertEqual(plain_wrong(reordered(thing)), plain_wrong(thing))


if __name__ == "__main__":
    unittest.main()
