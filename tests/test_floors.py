"""Promise 6.1: floors, writings, and a floor that is stopped behind so many of them."""

import unittest

from bending import NO_STATES, bends, kept
from underfloor.floors import is_floor, stopped, written

TOP = 2 ** 32 - 1
NOUGHTS = (0,) * 16


def numbered(many):
    """A floor whose blocks tell their numbers."""
    return [(number,) * 16 for number in range(many)]


class IsFloor(unittest.TestCase):
    def test_many_blocks(self):
        for many, good in ((0, False), (31, False), (32, True), (33, True), (199, True), (200, True), (201, False)):
            self.assertIs(kept(self, is_floor, numbered(many)), good, many)

    def test_blocks(self):
        for block, good in ((NOUGHTS, True), ((TOP,) * 16, True), (NOUGHTS[1:], False), (NOUGHTS + (0,), False),
                            ((TOP + 1,) * 16, False), ((-1,) * 16, False), ([0] * 16, False), ((True,) * 16, False),
                            (None, False), (0, False), ((), False), ("0" * 16, False), ({}, False)):
            for place in (0, 17, 39):
                floor = numbered(40)
                floor[place] = block
                self.assertIs(kept(self, is_floor, floor), good, block)

    def test_other_things(self):
        for thing in NO_STATES + (tuple(numbered(32)), dict(enumerate(numbered(32))), [NOUGHTS], "0" * 40, [0] * 32):
            self.assertIs(is_floor(thing), False, thing)

    def test_parts_of_other_kinds(self):
        for thing in bends(numbered(32)):
            self.assertIs(is_floor(thing), False, thing)


class Writings(unittest.TestCase):
    WRITINGS = [(3, NOUGHTS), (0, (9,) * 16), (39, (8,) * 16), (3, (7,) * 16)]

    def test_written(self):
        told = kept(self, written, numbered(40), self.WRITINGS)
        wanted = numbered(40)
        wanted[3], wanted[0], wanted[39] = (7,) * 16, (9,) * 16, (8,) * 16
        self.assertEqual(told, wanted)

    def test_none(self):
        floor = numbered(32)
        self.assertEqual(kept(self, written, floor, []), floor)
        self.assertIsNot(written(floor, []), floor)

    def test_stopped(self):
        for many in range(8):
            told = kept(self, stopped, numbered(40), self.WRITINGS, many)
            self.assertEqual(told, written(numbered(40), self.WRITINGS[:many]))
        self.assertEqual(stopped(numbered(40), self.WRITINGS, 0), numbered(40))
        self.assertEqual(stopped(numbered(40), self.WRITINGS, 1)[3], NOUGHTS)
        self.assertEqual(stopped(numbered(40), self.WRITINGS, 3)[3], NOUGHTS)
        self.assertEqual(stopped(numbered(40), self.WRITINGS, 4)[3], (7,) * 16)
        self.assertEqual(stopped(numbered(40), self.WRITINGS, TOP)[3], (7,) * 16)
        self.assertEqual(stopped(numbered(40), [], 3), numbered(40))


if __name__ == "__main__":
    unittest.main()
