"""Promises 7.2 to 7.4: heads, files and folders in blocks, new floors, good floors, and their trees."""

import random
import unittest

from bending import NO_STATES, bends, kept
from floorworlds import NOUGHTS, TOP, floor_from, padded, scattered, small_floor, small_tree, wide_floor, wide_tree
from underfloor.trees import floor_wrong, kind_of, named, new_floor, nth_name, size_of, tree_of, word_at


def with_block(floor, number, block):
    return floor[:number] + [block] + floor[number + 1:]


def with_word(floor, number, place, word):
    return with_block(floor, number, floor[number][:place] + (word,) + floor[number][place + 1:])


class NewFloor(unittest.TestCase):
    def test_word_for_word(self):
        self.assertEqual(new_floor(32), [NOUGHTS] * 14 + [(1,) * 16, padded(1), padded(2)] + [NOUGHTS] * 15)
        self.assertEqual(new_floor(33), [NOUGHTS] * 14 + [(1,) * 16, padded(1, 1), NOUGHTS, padded(2)] + [NOUGHTS] * 15)
        self.assertEqual(new_floor(48), [NOUGHTS] * 14 + [(1,) * 16, padded(1, 1), NOUGHTS, padded(2)] + [NOUGHTS] * 30)
        told = [(1,) * 16, padded(1, 1, 1), NOUGHTS, NOUGHTS, padded(2)]
        self.assertEqual(new_floor(49), [NOUGHTS] * 14 + told + [NOUGHTS] * 30)
        told = [(1,) * 16, (1,) * 12 + (0,) * 4] + [NOUGHTS] * 11 + [padded(2)]
        self.assertEqual(new_floor(200), [NOUGHTS] * 14 + told + [NOUGHTS] * 172)

    def test_good(self):
        for many in range(32, 201):
            self.assertIsNone(floor_wrong(new_floor(many)))
            self.assertEqual(tree_of(new_floor(many)), {14 + -(-many // 16): ("folder", {})})


class Trees(unittest.TestCase):
    def test_tree_of(self):
        for floor, tree in ((small_floor(), small_tree()[0]), (wide_floor(), wide_tree()[0])):
            self.assertIsNone(kept(self, floor_wrong, floor))
            told = kept(self, tree_of, floor)
            self.assertEqual(told, tree)
            for node in told.values():
                self.assertIsInstance(node, tuple)
                if node[0] == "folder":
                    self.assertEqual(list(node[1]), sorted(node[1]))
                else:
                    self.assertIsInstance(node[1], list)

    def test_parts_of_trees(self):
        for floor, tree in ((small_floor(), small_tree()[0]), (wide_floor(), wide_tree()[0])):
            for head, node in tree.items():
                self.assertEqual(kept(self, kind_of, floor, head), 1 if node[0] == "file" else 2)
                self.assertEqual(kept(self, size_of, floor, head), len(node[1]))
                if node[0] == "file":
                    self.assertEqual([word_at(floor, head, place) for place in range(len(node[1]))], node[1])
                    continue
                self.assertEqual([nth_name(floor, head, place) for place in range(len(node[1]))], sorted(node[1]))
                for name in list(node[1]) + [0, 2, 6, 9, 1001, TOP - 1]:
                    self.assertEqual(named(floor, head, name), node[1].get(name))

    def test_nothing_is_changed(self):
        kept(self, named, small_floor(), 17, 5)
        kept(self, word_at, small_floor(), 39, 16)
        kept(self, nth_name, small_floor(), 20, 1)

    def test_scattered(self):
        nodes = {0: ("folder", {3: 1, 9: 2, TOP: 3}), 1: ("folder", {1: 4, 2: 5}), 2: ("file", [5] * 64), 3: ("file", [TOP]),
                 4: ("folder", {7: 6}), 5: ("file", []), 6: ("file", list(range(17)))}
        for seed in range(40):
            chance = random.Random(seed)
            floor, tying = scattered(chance, chance.choice((40, 48, 49, 111, 200)), nodes)
            self.assertIsNone(floor_wrong(floor))
            for number, node in nodes.items():
                told = tree_of(floor)[tying[number]]
                if node[0] == "folder":
                    node = ("folder", {name: tying[inner] for name, inner in node[1].items()})
                self.assertEqual(told, node)


class FloorWrong(unittest.TestCase):
    def wrong(self, floor, why=None):
        told = kept(self, floor_wrong, floor)
        self.assertIsInstance(told, str, why)
        self.assertNotEqual(told, "")

    def test_things_that_are_no_floor(self):
        for thing in NO_STATES + (tuple(new_floor(32)), new_floor(32)[:31], new_floor(200) + [NOUGHTS], [NOUGHTS] * 32):
            self.assertIsInstance(floor_wrong(thing), str, thing)
        for thing in bends(new_floor(32)):
            self.assertIsInstance(floor_wrong(thing), str)

    def test_what_may_be_anything(self):
        junk = lambda number: (number, TOP) * 8
        self.assertIsNone(floor_wrong(small_floor(junk)))
        self.assertEqual(tree_of(small_floor(junk)), small_tree()[0])
        for number in list(range(1, 14)) + [21, 23, 24, 26, 37]:
            self.assertIsNone(floor_wrong(with_block(small_floor(), number, (TOP,) * 16)), number)

    def test_seal(self):
        for place in range(16):
            self.wrong(with_word(small_floor(), 0, place, 1))

    def test_each_word_that_counts(self):
        """Whatever word of the map, of heads, of names and behind them is another one, the floor is no more good."""
        floor = small_floor()
        # Names may be others that rise, nodes without words of the other kind, files longer by noughts.
        free = ((22, 0), (22, 2), (22, 4), (38, 0), (38, 2), (25, 0), (18, 0), (39, 1), (30, 1))
        for number in (14, 15, 16, 17, 20, 25, 18, 30, 39, 22, 38):
            for place in range(16):
                for word in (0, 1, 2, 3, 5, 13, 17, 22, 23, 25, 33, 39, 40, TOP):
                    if word != floor[number][place] and (number, place) not in free:
                        self.wrong(with_word(floor, number, place, word), (number, place, word))

    def test_how_many(self):
        for head, good, bad in ((39, (18, 32), (0, 15, 16, 33, 64, 65, TOP)), (30, (2, 16), (0, 17, 64, 65, TOP)),
                                (18, (), (1, 16, 64, TOP)), (17, (), (0, 1, 2, 4, 8, 9, 32, 33, TOP))):
            for many in good:
                told = with_word(small_floor(), head, 1, many)
                self.assertIsNone(floor_wrong(told), (head, many))
                self.assertEqual(len(tree_of(told)[head][1]), many)
            for many in bad:
                self.wrong(with_word(small_floor(), head, 1, many), (head, many))

    def test_names(self):
        floor = small_floor()
        for place, good, bad in ((0, (1, 4), (0, 5, 6, TOP)), (2, (2, 5, TOP - 1), (0, 1, TOP)), (4, (6, TOP), (0, 1, 5))):
            for name in good:
                self.assertIsNone(floor_wrong(with_word(floor, 22, place, name)))
            for name in bad:
                self.wrong(with_word(floor, 22, place, name))

    def test_words_of_files_are_free(self):
        for number, place in ((36, 0), (36, 15), (19, 0), (33, 0)):
            for word in (0, 7, TOP):
                self.assertIsNone(floor_wrong(with_word(small_floor(), number, place, word)))
        for number, place in ((19, 1), (19, 15), (33, 1), (33, 15)):
            self.wrong(with_word(small_floor(), number, place, 1))

    def test_kinds(self):
        for head in (17, 20, 25, 18, 30, 39):
            for kind in (0, 3, TOP):
                self.wrong(with_word(small_floor(), head, 0, kind))
        self.wrong(with_block(new_floor(32), 16, padded(1)))
        for head in (25, 18):
            swapped = with_word(small_floor(), head, 0, 3 - small_floor()[head][0])
            self.assertIsNone(floor_wrong(swapped))

    def test_root_is_a_folder(self):
        self.wrong(with_word(new_floor(32), 16, 0, 1))
        self.wrong(with_word(new_floor(32), 16, 0, 0))
        self.wrong([NOUGHTS] * 32)

    def test_most(self):
        tree, blocks = {17: ("file", [])}, {}
        for many in (32, 33):
            names = {name: 50 + name for name in range(1, many + 1)}
            tree = {27: ("folder", names), **{head: ("file", []) for head in names.values()}}
            blocks = {27: [100, 101, 102, 103] + ([104] if many == 33 else [])}
            self.assertEqual(floor_wrong(floor_from(200, tree, blocks)) is None, many == 32)
        for many in (64, 65):
            tree = {27: ("folder", {1: 50}), 50: ("file", [7] * many)}
            blocks = {27: [100], 50: [101, 102, 103, 104] + ([105] if many == 65 else [])}
            self.assertEqual(floor_wrong(floor_from(200, tree, blocks)) is None, many == 64)

    def test_blocks_that_are_two_things(self):
        tree, blocks = small_tree()
        for bent in ({39: [36, 36]}, {39: [36, 22]}, {39: [36, 39]}, {39: [36, 17]}, {39: [36, 33]}, {39: [36, 13]},
                     {39: [36, 16]}, {39: [36, 0]}, {39: [36, 25]}, {20: [20]}, {20: [22]}):
            self.wrong(floor_from(40, tree, {**blocks, **bent}), bent)
        self.assertIsNone(floor_wrong(floor_from(40, tree, {**blocks, 39: [36, 37]})))

    def test_heads_that_are_two_things(self):
        for head in (17, 20, 22, 39, 33, 0, 13, 14, 40, 200, TOP):
            self.wrong(with_word(small_floor(), 38, 1, head), head)
            self.wrong(with_word(small_floor(), 22, 1, head), head)

    def test_rings(self):
        tree = {17: ("folder", {1: 20}), 20: ("folder", {1: 21}), 21: ("folder", {1: 20})}
        blocks = {17: [30], 20: [31], 21: [32]}
        self.wrong(floor_from(40, tree, blocks))
        self.wrong(floor_from(40, {**tree, 21: ("folder", {1: 17})}, blocks))
        self.wrong(floor_from(40, {17: ("folder", {1: 17})}, {17: [30]}))
        self.assertIsNone(floor_wrong(floor_from(40, {**tree, 21: ("folder", {})}, {17: [30], 20: [31]})))

    def test_map(self):
        for floor in (small_floor(), new_floor(33), new_floor(200)):
            many = len(floor)
            for number in range(16 * (-(-many // 16))):
                block, place = 14 + number // 16, number % 16
                self.wrong(with_word(floor, block, place, 1 - floor[block][place]), number)
                self.wrong(with_word(floor, block, place, 2), number)

    def test_used_by_nobody(self):
        tree, blocks = small_tree()
        self.wrong(floor_from(40, {**tree, 37: ("file", [])}, blocks))
        floor = small_floor()
        self.wrong(with_word(with_word(floor, 17, 1, 2), 22, 4, 0))


if __name__ == "__main__":
    unittest.main()
