"""Promises 6.2 and 6.3: changes sealed, what is none, and a floor that comes up wherever it was stopped."""

import random
import unittest

from bending import bends, kept
from test_floors import NOUGHTS, TOP, numbered
from underfloor.errors import NoChange
from underfloor.floors import stopped, written
from underfloor.journals import come_up, coming_up, sealed


def floor_of(many):
    floor = numbered(many)
    floor[0] = NOUGHTS
    return floor


def change_of(numbers, seed=0):
    chance = random.Random(seed)
    return [(number, tuple(chance.choice((0, 1, TOP, chance.randrange(TOP))) for place in range(16))) for number in numbers]


def seal(*words):
    return tuple(words) + (0,) * (16 - len(words))


class Sealed(unittest.TestCase):
    def test_one_writing(self):
        block = tuple(range(1, 17))
        told = kept(self, sealed, floor_of(32), [(14, block)])
        self.assertEqual(told, [(1, block), (0, seal(1, 1, 136, 14)), (14, block), (0, NOUGHTS)])

    def test_two_writings_in_order(self):
        blocks = ((TOP,) * 16, (3,) + NOUGHTS[1:])
        told = kept(self, sealed, floor_of(200), [(199, blocks[0]), (20, blocks[1])])
        total = (16 * TOP + 3) % 2 ** 32
        wanted = [(1, blocks[0]), (2, blocks[1]), (0, seal(1, 2, total, 199, 20)), (199, blocks[0]), (20, blocks[1]),
                  (0, NOUGHTS)]
        self.assertEqual(told, wanted)

    def test_thirteen_writings(self):
        numbers = [14, 31, 15, 30, 16, 29, 17, 28, 18, 27, 19, 26, 20]
        change = change_of(numbers)
        told = kept(self, sealed, floor_of(32), change)
        total = sum(sum(block) for number, block in change) % 2 ** 32
        self.assertEqual(told[:13], [(place + 1, change[place][1]) for place in range(13)])
        self.assertEqual(told[13], (0, (1, 13, total) + tuple(numbers)))
        self.assertEqual(told[14:], change + [(0, NOUGHTS)])

    def refused(self, change, floor=None):
        with self.assertRaises(NoChange, msg=change):
            kept(self, sealed, floor_of(32) if floor is None else floor, change)

    def test_no_change(self):
        good = (14, NOUGHTS)
        for change in (
                [], change_of(range(14, 28)), [good, good], [good, (15, NOUGHTS), (14, (1,) * 16)], [(13, NOUGHTS)],
                [(0, NOUGHTS)], [(-1, NOUGHTS)], [(32, NOUGHTS)], [good, (200, NOUGHTS)], [(14, NOUGHTS[1:])],
                [(14, NOUGHTS + (0,))], [(14, (TOP + 1,) * 16)], [(14, (-1,) * 16)], [(14, [0] * 16)], [good, None],
                (good,), {14: NOUGHTS}, None, 14, "change", True, good, [[14, NOUGHTS]], [(14,)], [(14, NOUGHTS, 0)], [14],
                [()], [("14", NOUGHTS)], [(14.0, NOUGHTS)], [(True, NOUGHTS)], [(None, NOUGHTS)], [([], NOUGHTS)]):
            self.refused(change)
        self.refused([(14, (1,) * 16), (14, (2,) * 16)])
        self.assertEqual(len(sealed(floor_of(32), [good, (15, NOUGHTS)])), 6)
        self.refused([(199, NOUGHTS)], floor_of(199))
        self.assertEqual(len(sealed(floor_of(200), [(199, NOUGHTS)])), 4)

    def test_parts_of_other_kinds(self):
        for thing in bends(change_of((14, 20, 31))):
            self.refused(thing)


class ComingUp(unittest.TestCase):
    def test_seal_of_noughts(self):
        for many in (32, 200):
            self.assertEqual(kept(self, coming_up, floor_of(many)), [(0, NOUGHTS)])
            self.assertEqual(kept(self, come_up, floor_of(many)), floor_of(many))

    def with_seal(self, numbers, *words, many=40):
        """A floor with this seal, the right sum where no word is told, and the numbers behind."""
        floor = floor_of(many)
        head = [1, len(numbers), sum(16 * place for place in range(1, len(numbers) + 1))]
        head[:len(words)] = words
        floor[0] = (tuple(head) + tuple(numbers) + (0,) * 16)[:16]
        return floor

    def test_seal(self):
        floor = self.with_seal((39, 14, 20))
        self.assertEqual(kept(self, coming_up, floor), [(39, (1,) * 16), (14, (2,) * 16), (20, (3,) * 16), (0, NOUGHTS)])
        wanted = floor_of(40)
        wanted[39], wanted[14], wanted[20] = (1,) * 16, (2,) * 16, (3,) * 16
        self.assertEqual(kept(self, come_up, floor), wanted)

    def test_seal_of_thirteen(self):
        floor = self.with_seal(tuple(range(14, 27)))
        wanted = [(13 + place, (place,) * 16) for place in range(1, 14)] + [(0, NOUGHTS)]
        self.assertEqual(coming_up(floor), wanted)
        self.assertEqual(coming_up(self.with_seal((14,))), [(14, (1,) * 16), (0, NOUGHTS)])

    def none(self, floor):
        self.assertEqual(kept(self, coming_up, floor), [(0, NOUGHTS)], floor[0])
        self.assertEqual(kept(self, come_up, floor), [NOUGHTS] + floor[1:])

    def test_what_makes_a_seal_none(self):
        for first in (0, 2, TOP):
            self.none(self.with_seal((14, 15), first))
        for many in (0, 1, 3, 14, TOP):
            self.none(self.with_seal((14, 15), 1, many))
        for total in (47, 49, 0, TOP):
            self.none(self.with_seal((14, 15), 1, 2, total))
        for numbers in ((14, 14), (13, 14), (14, 0), (0, 14), (1, 14), (14, 40), (14, 200), (14, TOP)):
            self.none(self.with_seal(numbers))
        self.none(self.with_seal((14, 15, 16), 1, 2, 48))
        self.none(self.with_seal((14, 15, 0, 16), 1, 2, 48))
        self.none(self.with_seal((14, 15) + (0,) * 10 + (1,), 1, 2, 48))
        self.none(self.with_seal((), 1, 0, 0))
        self.none(self.with_seal(tuple(range(14, 27)), 1, 14, sum(16 * place for place in range(1, 15))))
        floor = self.with_seal((14, 15))
        for place in (1, 2):
            self.none(floor[:place] + [(TOP,) + floor[place][1:]] + floor[place + 1:])

    def test_sums_are_taken_modulo(self):
        floor = self.with_seal((14,), 1, 1, 2 ** 32 - 16)
        floor[1] = (TOP,) * 16
        self.assertEqual(coming_up(floor), [(14, (TOP,) * 16), (0, NOUGHTS)])

    def test_blocks_behind_those_of_the_seal_do_not_count(self):
        floor = self.with_seal((14, 15))
        floor[3] = (TOP,) * 16
        self.assertEqual(len(coming_up(floor)), 3)


class Stops(unittest.TestCase):
    def changes(self):
        for seed in range(20):
            chance = random.Random(seed)
            many = chance.choice((32, 40, 200))
            numbers = chance.sample(range(14, many), chance.randrange(1, 14))
            floor = [NOUGHTS] + [block for number, block in change_of(range(1, many), seed + 100)]
            yield floor, change_of(numbers, seed)
        yield floor_of(32), change_of([14])
        yield floor_of(32), change_of(range(19, 32))

    def test_stopped_anywhere(self):
        for floor, change in self.changes():
            writings = sealed(floor, change)
            self.assertEqual(len(writings), 2 * len(change) + 2)
            behind = written(floor, change)
            for many in range(len(writings) + 2):
                up = come_up(stopped(floor, writings, many))
                self.assertEqual(up[14:], floor[14:] if many <= len(change) else behind[14:])
                self.assertEqual(up[0], NOUGHTS)

    def test_coming_up_stopped_anywhere(self):
        for floor, change in self.changes():
            writings = sealed(floor, change)
            for many in range(len(writings) + 1):
                halted = stopped(floor, writings, many)
                rising = coming_up(halted)
                for done in range(len(rising) + 1):
                    again = stopped(halted, rising, done)
                    self.assertEqual(come_up(again)[14:], come_up(halted)[14:])
                    twice = stopped(again, coming_up(again), done // 2)
                    self.assertEqual(come_up(twice), come_up(halted))


if __name__ == "__main__":
    unittest.main()
