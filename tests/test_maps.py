"""Promise 7.1: the map, the root, and which blocks are used."""

import unittest

from bending import kept
from floorworlds import NOUGHTS, small_floor, wide_floor, wide_tree
from underfloor.maps import free_blocks, map_blocks, root_of, used
from underfloor.trees import new_floor


class Maps(unittest.TestCase):
    def test_map_blocks(self):
        for many, blocks in ((32, 2), (33, 3), (47, 3), (48, 3), (49, 4), (64, 4), (65, 5), (192, 12), (193, 13), (200, 13)):
            self.assertEqual(map_blocks(many), blocks)

    def test_root_of(self):
        for many, root in ((32, 16), (33, 17), (48, 17), (49, 18), (200, 27)):
            self.assertEqual(kept(self, root_of, new_floor(many)), root)
            self.assertEqual(root_of([NOUGHTS] * many), root)

    def test_new_floors(self):
        for many, root in ((32, 16), (33, 17), (48, 17), (49, 18), (200, 27)):
            floor = new_floor(many)
            self.assertEqual(kept(self, used, floor), [1] * (root + 1) + [0] * (many - root - 1))
            self.assertEqual(kept(self, free_blocks, floor), list(range(root + 1, many)))

    def test_floors_with_files(self):
        taken = list(range(18)) + [39, 20, 25, 18, 30, 22, 36, 19, 38, 33]
        self.assertEqual(kept(self, used, small_floor()), [1 if number in taken else 0 for number in range(40)])
        self.assertEqual(free_blocks(small_floor()), [number for number in range(40) if number not in taken])
        tree, blocks = wide_tree()
        taken = list(range(28)) + list(tree) + [number for numbers in blocks.values() for number in numbers]
        self.assertEqual(free_blocks(wide_floor()), [number for number in range(200) if number not in taken])
        self.assertEqual(sum(used(wide_floor())), len(set(taken)))


if __name__ == "__main__":
    unittest.main()
