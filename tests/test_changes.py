"""Promises 7.5 and 7.6: changes of files as changes of the floor."""

import random
import unittest

from bending import kept
from floorworlds import NOUGHTS, TOP, floor_from, padded, root_at, small_floor, small_tree, wide_floor, wide_tree
from underfloor.changes import cut_to, dropped, made, put_word
from underfloor.errors import NoChange, NoRoom
from underfloor.floors import stopped, written
from underfloor.journals import come_up, sealed
from underfloor.maps import free_blocks
from underfloor.trees import floor_wrong, new_floor, tree_of


def marked(floor, place, **marks):
    """The map's block at this place, with some marks changed: b18=1 is the mark of block 18."""
    words = list(floor[14 + place])
    for name, mark in marks.items():
        number = int(name[1:])
        assert number // 16 == place
        words[number % 16] = mark
    return (14 + place, tuple(words))


def with_files(tree, folder, left, blocks):
    """A tree in which the folder has files whose heads and blocks are just those that are left."""
    tree, blocks, names = dict(tree), dict(blocks), dict(tree[folder][1])
    while left:
        head, left = left[0], left[1:]
        blocks[head], left = left[:4], left[4:]
        names[1000 + len(names)] = head
        tree[head] = ("file", [head] * 16 * len(blocks[head]))
    tree[folder] = ("folder", names)
    return tree, blocks


def crowded():
    """The small tree on a floor without a free block."""
    tree, blocks = small_tree()
    floor = floor_from(40, *with_files(tree, 17, free_blocks(small_floor()), blocks))
    assert free_blocks(floor) == [] and floor_wrong(floor) is None
    return floor


def filled(many, free):
    """A floor of so many blocks, whose root has files in all but so many of them."""
    root = root_at(many)
    tree, blocks = with_files({root: ("folder", {})}, root, list(range(root + 2, many - free)), {root: [root + 1]})
    floor = floor_from(many, tree, blocks)
    assert len(free_blocks(floor)) == free and floor_wrong(floor) is None
    return floor


class Changes(unittest.TestCase):
    def refused(self, error, deed, floor, *parts):
        with self.assertRaises(error, msg=parts):
            kept(self, deed, floor, *parts)

    def told(self, deed, floor, *parts):
        self.assertIsNone(floor_wrong(floor))
        told = kept(self, deed, floor, *parts)
        change = told[0] if deed is made else told
        self.assertEqual(change, sorted(change))
        behind = written(floor, change)
        self.assertIsNone(floor_wrong(behind))
        self.assertEqual(change, [(number, behind[number]) for number in range(len(floor)) if behind[number] != floor[number]])
        self.assertLessEqual(len(change), 13)
        return told


class Made(Changes):
    def test_first_on_a_new_floor(self):
        for kind in (1, 2):
            told = self.told(made, new_floor(32), 16, 5, kind)
            wanted = [(15, padded(1, 1, 1)), (16, padded(2, 1, 18)), (17, padded(kind)), (18, padded(5, 17))]
            self.assertEqual(told, (wanted, 17))

    def test_amid_others(self):
        floor = small_floor()
        told = self.told(made, floor, 17, 2, 1)
        wanted = [marked(floor, 1, b21=1), (17, padded(2, 4, 22)), (21, padded(1)),
                  (22, padded(1, 30, 2, 21, 5, 39, TOP, 20))]
        self.assertEqual(told, (wanted, 21))
        told = self.told(made, floor, 20, TOP, 2)
        self.assertEqual(told, ([marked(floor, 1, b21=1), (20, padded(2, 3, 38)), (21, padded(2)),
                                 (38, padded(7, 25, 8, 18, TOP, 21))], 21))

    def test_folder_without_names_wants_a_block(self):
        floor = small_floor()
        told = self.told(made, floor, 25, 9, 1)
        wanted = [marked(floor, 1, b21=1, b23=1), (21, padded(1)), (23, padded(9, 21)), (25, padded(2, 1, 23))]
        self.assertEqual(told, (sorted(wanted), 21))

    def test_head_that_stands_there_already_is_not_written(self):
        floor = small_floor(lambda number: padded(1) if number == 21 else NOUGHTS)
        told = self.told(made, floor, 17, 2, 1)
        self.assertEqual([number for number, block in told[0]], [15, 17, 22])

    def test_eight_names_and_nine(self):
        tree, blocks = wide_tree()
        floor = wide_floor()
        free = free_blocks(floor)
        change, head = self.told(made, floor, 50, 975, 1)
        names = {**tree[50][1], 975: head}
        cells = [word for name in sorted(names) for word in (name, names[name])]
        self.assertEqual(head, free[0])
        self.assertEqual(dict(change)[50], padded(2, 9, blocks[50][0], free[1]))
        self.assertEqual(dict(change)[blocks[50][0]], padded(*cells[:16]))
        self.assertEqual(dict(change)[free[1]], padded(*cells[16:]))
        change, head = self.told(made, floor, 60, 1, 2)
        self.assertEqual(dict(change)[60], padded(2, 10, *blocks[60]))
        change, head = self.told(made, floor, 60, 1001, 2)
        self.assertNotIn(blocks[60][0], dict(change))

    def test_tree_behind(self):
        for floor, tree in ((small_floor(), small_tree()[0]), (wide_floor(), wide_tree()[0])):
            for folder in [head for head, node in tree.items() if node[0] == "folder" and len(node[1]) < 32]:
                for name in (4, 500, TOP - 1):
                    for kind, node in ((1, ("file", [])), (2, ("folder", {}))):
                        change, head = self.told(made, floor, folder, name, kind)
                        wanted = {**tree, folder: ("folder", {**tree[folder][1], name: head}), head: node}
                        self.assertEqual(tree_of(written(floor, change)), wanted)

    def test_no_change(self):
        for folder, name, kind in (
                (17, 0, 1), (17, 1, 1), (17, 5, 2), (17, TOP, 1), (17, TOP + 1, 1), (17, -1, 1), (39, 2, 1), (18, 2, 1),
                (19, 2, 1), (22, 2, 1), (21, 2, 1), (0, 2, 1), (13, 2, 1), (40, 2, 1), (-1, 2, 1), (17, 2, 0), (17, 2, 3),
                (17, 2, True), (True, 2, 1), (17, True, 1), (17.0, 2, 1), (None, 2, 1), (17, None, 1), (17, 2, None),
                ("17", 2, 1), (17, "2", 1), ([], 2, 1), (17, [], 1), (17, 2, [])):
            self.refused(NoChange, made, small_floor(), folder, name, kind)
            self.refused(NoChange, made, crowded(), folder, name, kind)
        self.refused(NoChange, made, wide_floor(), 70, 1, 1)

    def test_no_room(self):
        self.refused(NoRoom, made, crowded(), 17, 2, 1)
        for free in (0, 1, 2):
            for many in (40, 44):
                floor = filled(many, free)
                names = len(tree_of(floor)[root_at(many)][1])
                wanted = 2 if names == 8 else 1
                if free < wanted:
                    self.refused(NoRoom, made, floor, root_at(many), 99, 2)
                else:
                    self.told(made, floor, root_at(many), 99, 2)

    def test_no_room_for_the_names_block(self):
        names = {name: 17 + name for name in range(1, 9)}
        tree = {16: ("folder", names), **{head: ("file", []) for head in names.values()}, 25: ("file", [1] * 64)}
        tree[16] = ("folder", {**{name: head for name, head in names.items() if head != 25}, 8: 25})
        for last in (30, 31):
            blocks = {16: [17], 25: [26, 27, 28, 29]}
            extra = {**tree, 18: ("file", [1] * (16 if last == 31 else 0))}
            if last == 31:
                blocks[18] = [30]
            floor = floor_from(32, extra, blocks)
            self.assertEqual(free_blocks(floor), [30, 31] if last == 30 else [31])
            if last == 30:
                change, head = self.told(made, floor, 16, 9, 1)
                self.assertEqual((head, dict(change)[16]), (30, padded(2, 9, 17, 31)))
            else:
                self.refused(NoRoom, made, floor, 16, 9, 1)


class Dropped(Changes):
    def test_file_with_blocks(self):
        floor = small_floor()
        told = self.told(dropped, floor, 17, 5)
        wanted = [marked(floor, 1, b19=0), marked(floor, 2, b36=0, b39=0), (17, padded(2, 2, 22)),
                  (22, padded(1, 30, TOP, 20))]
        self.assertEqual(told, wanted)
        self.assertEqual(set(free_blocks(written(floor, told))) - set(free_blocks(floor)), {19, 36, 39})

    def test_file_and_folder_without_anything(self):
        floor = small_floor()
        self.assertEqual(self.told(dropped, floor, 20, 7), [marked(floor, 1, b25=0), (20, padded(2, 1, 38)), (38, padded(8, 18))])
        self.assertEqual(self.told(dropped, floor, 20, 8), [marked(floor, 1, b18=0), (20, padded(2, 1, 38)), (38, padded(7, 25))])

    def test_last_name_of_a_block(self):
        floor = written(small_floor(), dropped(small_floor(), 20, 7))
        told = self.told(dropped, floor, 20, 8)
        self.assertEqual(told, [marked(floor, 1, b18=0), marked(floor, 2, b38=0), (20, padded(2))])
        tree, blocks = wide_tree()
        floor = wide_floor()
        told = self.told(dropped, floor, 60, min(tree[60][1]))
        self.assertEqual(dict(told)[60], padded(2, 8, blocks[60][0]))
        self.assertNotIn(blocks[60][1], dict(told))
        self.assertIn(blocks[60][1], free_blocks(written(floor, told)))
        told = self.told(dropped, floor, 70, min(tree[70][1]))
        self.assertEqual(dict(told)[70], padded(2, 31, *blocks[70]))
        told = self.told(dropped, floor, 70, max(tree[70][1]))
        self.assertEqual([number for number in blocks[70] if number in dict(told)], [blocks[70][3]])

    def test_most_writings(self):
        """All of a dropped file's blocks, and the folder's last one, lie under unlike blocks of the map."""
        names = {name: 160 + name for name in range(1, 26)}
        tree = {27: ("folder", names), **{head: ("file", []) for head in names.values()}}
        tree[27] = ("folder", {**names, 1: 33})
        tree[33] = ("file", [5] * 64)
        tree.pop(161)
        floor = floor_from(200, tree, {27: [28, 29, 30, 140], 33: [50, 66, 82, 98]})
        told = self.told(dropped, floor, 27, 1)
        self.assertEqual([number for number, block in told], [16, 17, 18, 19, 20, 22, 27, 28, 29, 30])

    def test_tree_behind(self):
        for floor, tree in ((small_floor(), small_tree()[0]), (wide_floor(), wide_tree()[0])):
            for folder, node in tree.items():
                for name, head in node[1].items() if node[0] == "folder" else ():
                    if tree[head][0] == "folder" and tree[head][1]:
                        self.refused(NoChange, dropped, floor, folder, name)
                        continue
                    names = {inner: other for inner, other in node[1].items() if inner != name}
                    wanted = {**{other: tree[other] for other in tree if other != head}, folder: ("folder", names)}
                    self.assertEqual(tree_of(written(floor, self.told(dropped, floor, folder, name))), wanted)

    def test_no_change(self):
        for folder, name in ((17, 0), (17, 2), (17, TOP), (17, TOP - 1), (25, 1), (39, 1), (30, 0), (22, 1), (21, 1), (0, 1),
                             (40, 1), (17, -1), (17, TOP + 1), (17, True), (17, None), (17, "5"), (None, 5), (17, []),
                             ([], 5), (True, 5), (-1, 5)):
            self.refused(NoChange, dropped, small_floor(), folder, name)


class PutWord(Changes):
    def test_in_place(self):
        floor = small_floor()
        self.assertEqual(self.told(put_word, floor, 39, 0, TOP), [(36, (TOP,) + tuple(range(101, 116)))])
        self.assertEqual(self.told(put_word, floor, 39, 15, 0), [(36, tuple(range(100, 115)) + (0,))])
        self.assertEqual(self.told(put_word, floor, 39, 16, 5), [(19, padded(5))])

    def test_without_writings(self):
        for head, place, word in ((39, 0, 100), (39, 16, 116), (30, 0, 0)):
            self.assertEqual(self.told(put_word, small_floor(), head, place, word), [])

    def test_one_word_more(self):
        floor = small_floor()
        self.assertEqual(self.told(put_word, floor, 39, 17, 8), [(19, padded(116, 8)), (39, padded(1, 18, 36, 19))])
        self.assertEqual(self.told(put_word, floor, 39, 17, 0), [(39, padded(1, 18, 36, 19))])
        self.assertEqual(self.told(put_word, floor, 30, 1, 4), [(30, padded(1, 2, 33)), (33, padded(0, 4))])

    def test_a_new_block(self):
        floor = small_floor()
        told = self.told(put_word, floor, 18, 0, 9)
        self.assertEqual(told, [marked(floor, 1, b21=1), (18, padded(1, 1, 21)), (21, padded(9))])
        told = self.told(put_word, floor, 18, 0, 0)
        self.assertEqual(told, [marked(floor, 1, b21=1), (18, padded(1, 1, 21))])
        junk = small_floor(lambda number: (TOP,) * 16)
        told = self.told(put_word, junk, 18, 0, 0)
        self.assertEqual(told, [marked(junk, 1, b21=1), (18, padded(1, 1, 21)), (21, NOUGHTS)])

    def test_sixteen_and_sixty_three(self):
        tree, blocks = wide_tree()
        floor = wide_floor()
        free = free_blocks(floor)
        for head, node in tree.items():
            if node[0] == "file" and len(node[1]) == 16:
                told = dict(self.told(put_word, floor, head, 16, 3))
                self.assertEqual((told[head], told[free[0]]), (padded(1, 17, *blocks[head], free[0]), padded(3)))
            if node[0] == "file" and len(node[1]) == 63:
                told = dict(self.told(put_word, floor, head, 63, 3))
                self.assertEqual(set(told), {head, blocks[head][3]})
                self.refused(NoChange, put_word, floor, head, 64, 3)
            if node[0] == "file" and len(node[1]) == 64:
                self.told(put_word, floor, head, 63, 3)
                self.refused(NoChange, put_word, floor, head, 64, 3)

    def test_no_change(self):
        for head, place, word in (
                (39, 18, 1), (39, -1, 1), (39, 63, 1), (18, 1, 1), (17, 0, 1), (20, 0, 1), (25, 0, 1), (22, 0, 1), (23, 0, 1),
                (0, 0, 1), (40, 0, 1), (-1, 0, 1), (39, 0, TOP + 1), (39, 0, -1), (39, True, 1), (39, None, 1), (39, "0", 1),
                (39, 0, True), (39, 0, None), (39, 0, "1"), (None, 0, 1), (True, 0, 1), ([], 0, 1), (39, [], 1), (39, 0, [])):
            self.refused(NoChange, put_word, small_floor(), head, place, word)
            self.refused(NoChange, put_word, crowded(), head, place, word)

    def test_no_room(self):
        self.refused(NoRoom, put_word, crowded(), 18, 0, 1)
        self.assertEqual(self.told(put_word, crowded(), 39, 17, 1), [(19, padded(116, 1)), (39, padded(1, 18, 36, 19))])
        tree = {16: ("folder", {1: 18, 2: 19}), 18: ("file", []), 19: ("file", [7] * 64)}
        for last in (30, 31):
            more = {**tree, 24: ("file", [7] * 64), 29: ("file", [1] * 16 if last == 31 else []), 18: ("file", [2] * 16)}
            names = {1: 18, 2: 19, 3: 24, 4: 29}
            blocks = {16: [17], 19: [20, 21, 22, 23], 24: [25, 26, 27, 28], 18: [30], 29: [31] if last == 31 else []}
            floor = floor_from(32, {**more, 16: ("folder", names)}, blocks)
            if last == 31:
                self.refused(NoRoom, put_word, floor, 18, 16, 1)
            else:
                self.assertEqual(dict(self.told(put_word, floor, 18, 16, 1))[18], padded(1, 17, 30, 31))


class CutTo(Changes):
    def test_cut(self):
        floor = small_floor()
        self.assertEqual(self.told(cut_to, floor, 39, 16), [marked(floor, 1, b19=0), (39, padded(1, 16, 36))])
        told = self.told(cut_to, floor, 39, 3)
        self.assertEqual(told, [marked(floor, 1, b19=0), (36, padded(100, 101, 102)), (39, padded(1, 3, 36))])
        told = self.told(cut_to, floor, 39, 0)
        self.assertEqual(told, [marked(floor, 1, b19=0), marked(floor, 2, b36=0), (39, padded(1))])
        told = self.told(cut_to, floor, 30, 0)
        self.assertEqual(told, [marked(floor, 2, b33=0), (30, padded(1))])

    def test_all_its_words(self):
        for head, many in ((39, 17), (18, 0), (30, 1)):
            self.assertEqual(self.told(cut_to, small_floor(), head, many), [])

    def test_cells_that_are_noughts_already(self):
        floor = written(small_floor(), put_word(small_floor(), 39, 17, 0))
        self.assertEqual(self.told(cut_to, floor, 39, 17), [(39, padded(1, 17, 36, 19))])

    def test_tree_behind(self):
        for floor, tree in ((small_floor(), small_tree()[0]), (wide_floor(), wide_tree()[0])):
            for head, node in tree.items():
                for many in range(len(node[1]) + 1) if node[0] == "file" else ():
                    behind = written(floor, self.told(cut_to, floor, head, many))
                    self.assertEqual(tree_of(behind), {**tree, head: ("file", node[1][:many])})

    def test_no_change(self):
        for head, many in ((39, 18), (39, -1), (18, 1), (17, 0), (20, 0), (22, 0), (21, 0), (0, 0), (40, 0), (39, True),
                           (39, None), (39, "0"), (None, 0), (True, 0), ([], 0), (39, []), (39, TOP)):
            self.refused(NoChange, cut_to, small_floor(), head, many)


class Many(Changes):
    """Changes one behind the other, each held against a plain tree, and some stopped amid their writings."""

    def drawn(self, chance, tree):
        """Some change: a name of its deed, its parts, and whether the document refuses them."""
        head = chance.choice(list(tree))
        node = tree[head]
        deed = chance.choice(("made", "made", "dropped", "put", "put", "put", "cut"))
        if deed == "made":
            name = chance.choice((0, 1, 2, 3, 4, 5, chance.randrange(1, 50), TOP))
            bad = node[0] != "folder" or name == 0 or name in node[1] or len(node[1]) >= 32
            return deed, (head, name, chance.choice((1, 2))), bad
        if deed == "dropped":
            name = chance.choice(list(node[1])) if node[0] == "folder" and node[1] else 3
            bad = node[0] != "folder" or name not in node[1]
            if not bad:
                inner = tree[node[1][name]]
                bad = inner[0] == "folder" and len(inner[1]) > 0
            return deed, (head, name), bad
        size = len(node[1])
        if deed == "put":
            place = chance.choice((size, size, size, size + 1, chance.randrange(size + 1)))
            bad = node[0] != "file" or place > size or place > 63
            return deed, (head, place, chance.choice((0, 1, TOP))), bad
        many = chance.choice((size, size + 1, chance.randrange(size + 1), max(0, size - 1)))
        return deed, (head, many), node[0] != "file" or many > size

    def wanted(self, tree, deed, parts, head):
        """The tree behind, and how many blocks the change takes beyond those it frees."""
        new = dict(tree)
        if deed == "made":
            new[parts[0]] = ("folder", {**tree[parts[0]][1], parts[1]: head})
            new[head] = ("file", []) if parts[2] == 1 else ("folder", {})
        elif deed == "dropped":
            new.pop(tree[parts[0]][1][parts[1]])
            new[parts[0]] = ("folder", {name: inner for name, inner in tree[parts[0]][1].items() if name != parts[1]})
        elif deed == "put":
            words = list(tree[parts[0]][1])
            new[parts[0]] = ("file", words[:parts[1]] + [parts[2]] + words[parts[1] + 1:])
        else:
            new[parts[0]] = ("file", tree[parts[0]][1][:parts[1]])
        return new

    def blocks(self, deed, parts, tree):
        size = len(tree[parts[0]][1])
        if deed == "made":
            return 1 + (1 if size % 8 == 0 else 0)
        return 1 if deed == "put" and parts[1] == size and size % 16 == 0 else 0

    def test_many(self):
        deeds = {"made": made, "dropped": dropped, "put": put_word, "cut": cut_to}
        for seed in range(12):
            chance = random.Random(seed)
            floor = new_floor(chance.choice((32, 33, 40, 48, 49, 80, 200)))
            tree = tree_of(floor)
            for turn in range(120):
                deed, parts, bad = self.drawn(chance, tree)
                if bad:
                    self.refused(NoChange, deeds[deed], floor, *parts)
                    continue
                free = free_blocks(floor)
                if len(free) < self.blocks(deed, parts, tree):
                    self.refused(NoRoom, deeds[deed], floor, *parts)
                    continue
                told = self.told(deeds[deed], floor, *parts)
                change, head = told if deed == "made" else (told, None)
                if deed == "made":
                    self.assertEqual(head, free[0])
                behind = self.wanted(tree, deed, parts, head)
                if not change:
                    self.assertEqual(behind, tree)
                    continue
                writings = sealed(floor, change)
                for many in range(len(writings) + 1):
                    up = come_up(stopped(floor, writings, many))
                    self.assertIsNone(floor_wrong(up))
                    self.assertEqual(tree_of(up), tree if many <= len(change) else behind)
                floor, tree = written(floor, writings), behind
                self.assertEqual(tree_of(floor), tree)


if __name__ == "__main__":
    unittest.main()
