"""Promises 4.5 and 4.7: handles, and the calls 11 to 20 of the plain machine."""

import unittest

from bending import kept
from plainworlds import BAD, HELD, LACK, TOP, state, task
from underfloor.plaincalls import plain_call
from underfloor.plainfiles import file_call, node_of
from underfloor.plainstates import plain_wrong

OWN_REGS = [11, 12, 13, 14, 15, 16, 17, 18]


def files():
    """Root: 5 a file of three words, 9 a folder with the empty folder 7 and the file 3, TOP an empty file."""
    nodes = {
        0: ("folder", {9: 1, TOP: 5, 5: 2}), 1: ("folder", {7: 3, 3: 4}), 2: ("file", [30, 31, 32]), 3: ("folder", {}),
        4: ("file", list(range(64))), 5: ("file", []),
    }
    one = task(regs=OWN_REGS, row=5, handles={1: 1, 2: 2, 3: 3, 7: 4})
    return state({1: one, 2: task(handles={1: 2, 5: 3, 6: 0})}, nodes=nodes)


def answered(world, answer, second=None):
    regs = [answer, 12 if second is None else second] + OWN_REGS[2:]
    return {**world, "tasks": {**world["tasks"], 1: {**world["tasks"][1], "regs": regs}}}


def with_nodes(world, **nodes):
    """A copy with nodes changed, named n0 to n39; those that are None are gone."""
    new = {**world["nodes"], **{int(name[1:]): node for name, node in nodes.items()}}
    return {**world, "nodes": {number: node for number, node in new.items() if node is not None}}


def with_handles(world, handles):
    return {**world, "tasks": {**world["tasks"], 1: {**world["tasks"][1], "handles": handles}}}


class Files(unittest.TestCase):
    def call(self, number, a, b=0, c=0, world=None):
        world = files() if world is None else world
        self.assertIsNone(plain_wrong(world))
        told = kept(self, file_call, world, 1, number, a, b, c)
        self.assertEqual(kept(self, plain_call, world, 1, number, a, b, c), told)
        self.assertIsNone(plain_wrong(told))
        return told

    def tells(self, parts, answer, second=None, world=None):
        told = self.call(*parts, world=world)
        self.assertEqual(told, answered(files() if world is None else world, answer, second), parts)

    def changes(self, parts, wanted, answer=0, world=None):
        self.assertEqual(self.call(*parts, world=world), answered(wanted, answer), parts)

    def test_node_of(self):
        for handle, node in ((0, 0), (1, 1), (2, 2), (3, 3), (7, 4), (4, None), (8, None), (TOP, None)):
            self.assertEqual(kept(self, node_of, files(), 1, handle), node)
        self.assertEqual([node_of(files(), 2, handle) for handle in (0, 1, 5, 6, 2)], [0, 2, 3, 0, None])

    def test_made(self):
        world = files()
        self.changes((11, 0, 1), with_nodes(world, n0=("folder", {9: 1, TOP: 5, 5: 2, 1: 6}), n6=("folder", {})))
        self.changes((12, 0, 6, 99), with_nodes(world, n0=("folder", {9: 1, TOP: 5, 5: 2, 6: 6}), n6=("file", [])))
        self.changes((12, 3, TOP), with_nodes(world, n3=("folder", {TOP: 6}), n6=("file", [])))
        self.changes((11, 1, 5), with_nodes(world, n1=("folder", {7: 3, 3: 4, 5: 6}), n6=("folder", {})))

    def test_made_gets_the_least_free_number(self):
        world = with_nodes(files(), n0=("folder", {9: 1, 5: 2}), n5=None)
        wanted = with_nodes(world, n0=("folder", {9: 1, 5: 2, 8: 5}), n5=("file", []))
        self.changes((12, 0, 8), wanted, world=world)

    def test_made_bad(self):
        for number in (11, 12):
            for handle, name in ((2, 1), (7, 1), (4, 1), (8, 1), (TOP, 1), (0, 0), (3, 0), (4, 0), (2, 5)):
                self.tells((number, handle, name), BAD)

    def test_made_held(self):
        for number in (11, 12):
            for handle, name in ((0, 9), (0, 5), (0, TOP), (1, 7), (1, 3)):
                self.tells((number, handle, name), HELD)

    def filled(self, names, more):
        """So many names in the root, and so many nodes in a folder that is node 39 and has the name 1."""
        nodes = {39: ("folder", {name: name + 31 for name in range(1, more + 1)}),
                 0: ("folder", {1: 39, **{name: name - 1 for name in range(2, names + 1)}})}
        for node in list(range(1, names)) + list(range(32, 32 + more)):
            nodes[node] = ("file", [])
        return state({1: task(regs=OWN_REGS, handles={1: 39})}, nodes=nodes)

    def test_thirty_two_names(self):
        world = self.filled(32, 0)
        for number in (11, 12):
            self.tells((number, 0, 33), LACK, world=world)
            self.tells((number, 0, 32), HELD, world=world)
            self.tells((number, 0, 0), BAD, world=world)
        self.changes((12, 1, 33), with_nodes(world, n39=("folder", {33: 32}), n32=("file", [])), world=world)
        world = self.filled(31, 0)
        names = {**world["nodes"][0][1], 99: 31}
        self.changes((11, 0, 99), with_nodes(world, n0=("folder", names), n31=("folder", {})), world=world)

    def test_forty_nodes(self):
        world = self.filled(32, 7)
        self.assertEqual(len(world["nodes"]), 40)
        for number in (11, 12):
            self.tells((number, 1, 9), LACK, world=world)
            self.tells((number, 1, 7), HELD, world=world)
        world = self.filled(32, 6)
        names = {**world["nodes"][39][1], 9: 38}
        self.changes((12, 1, 9), with_nodes(world, n39=("folder", names), n38=("file", [])), world=world)

    def test_dropped(self):
        world = files()
        self.changes((13, 0, TOP), with_nodes(world, n0=("folder", {9: 1, 5: 2}), n5=None))
        world = with_handles(world, {1: 1})
        self.changes((13, 1, 3), with_nodes(world, n1=("folder", {7: 3}), n4=None), world=world)
        world = {**world, "tasks": {1: world["tasks"][1]}}
        self.changes((13, 1, 7), with_nodes(world, n1=("folder", {3: 4}), n3=None), world=world)
        self.changes((13, 0, 5), with_nodes(world, n0=("folder", {9: 1, TOP: 5}), n2=None), world=world)

    def test_drop_bad(self):
        for handle, name in ((2, 5), (7, 1), (4, 9), (TOP, 9), (0, 0), (0, 4), (0, 7), (1, 9), (3, 7)):
            self.tells((13, handle, name), BAD)
            self.tells((14, handle, name), BAD)

    def test_drop_held(self):
        self.tells((13, 0, 9), HELD)
        self.tells((13, 0, 9), HELD, world=with_handles(files(), {}))
        one = with_nodes(files(), n1=("folder", {3: 4}), n0=("folder", {9: 1, TOP: 5, 5: 2, 6: 3}))
        self.tells((13, 0, 9), HELD, world=with_handles(one, {}))
        self.tells((13, 0, 5), HELD)
        self.tells((13, 0, 5), HELD, world=with_handles(files(), {}))
        self.tells((13, 1, 7), HELD)
        self.tells((13, 1, 7), HELD, world=with_handles(files(), {1: 1}))
        self.tells((13, 1, 3), HELD)

    def test_opened(self):
        world = files()
        self.changes((14, 0, 9), with_handles(world, {1: 1, 2: 2, 3: 3, 7: 4, 4: 1}), 4)
        self.changes((14, 1, 3), with_handles(world, {1: 1, 2: 2, 3: 3, 7: 4, 4: 4}), 4)
        world = with_handles(world, {2: 1})
        self.changes((14, 2, 7), with_handles(world, {2: 1, 1: 3}), 1, world=world)

    def test_seven_handles(self):
        six = with_handles(files(), {handle: 1 for handle in (1, 2, 3, 4, 6, 7)})
        seven = with_handles(files(), {handle: 1 for handle in range(1, 8)})
        self.changes((14, 0, 5), with_handles(six, {**six["tasks"][1]["handles"], 5: 2}), 5, world=six)
        self.tells((14, 0, 5), LACK, world=seven)
        self.tells((14, 0, 6), BAD, world=seven)

    def test_closed(self):
        self.changes((15, 2), with_handles(files(), {1: 1, 3: 3, 7: 4}))
        self.changes((15, 7, 5, 5), with_handles(files(), {1: 1, 2: 2, 3: 3}))
        for handle in (0, 4, 5, 8, TOP):
            self.tells((15, handle), BAD)

    def test_sizes(self):
        for handle, size in ((0, 3), (1, 2), (2, 3), (3, 0), (7, 64), (4, BAD), (8, BAD), (TOP, BAD)):
            self.tells((16, handle), size)

    def test_nth(self):
        for handle, place, name in ((0, 0, 5), (0, 1, 9), (0, 2, TOP), (1, 0, 3), (1, 1, 7)):
            self.tells((17, handle, place), 0, name)
        for handle, place in ((0, 3), (0, TOP), (1, 2), (3, 0), (2, 0), (7, 0), (4, 0), (TOP, 0)):
            self.tells((17, handle, place), BAD)

    def test_read(self):
        for handle, place, word in ((2, 0, 30), (2, 2, 32), (7, 0, 0), (7, 63, 63)):
            self.tells((18, handle, place), 0, word)
        for handle, place in ((2, 3), (2, TOP), (7, 64), (0, 0), (1, 0), (3, 0), (4, 0), (TOP, 0)):
            self.tells((18, handle, place), BAD)

    def test_written(self):
        for place, words in ((0, [8, 31, 32]), (2, [30, 31, 8]), (3, [30, 31, 32, 8])):
            self.changes((19, 2, place, 8), with_nodes(files(), n2=("file", words)))
        self.changes((19, 7, 63, TOP), with_nodes(files(), n4=("file", list(range(63)) + [TOP])))
        self.changes((19, 2, 0, 30), files())

    def test_written_at_the_bounds(self):
        world = with_nodes(files(), n4=("file", list(range(63))))
        self.changes((19, 7, 63, 5), with_nodes(world, n4=("file", list(range(63)) + [5])), world=world)
        self.tells((19, 7, 64, 5), BAD, world=world)
        self.tells((19, 7, 64, 5), BAD)
        world = with_handles(files(), {1: 5})
        self.changes((19, 1, 0, 7), with_nodes(world, n5=("file", [7])), world=world)

    def test_write_bad(self):
        for handle, place in ((2, 4), (2, 63), (2, TOP), (7, 64), (7, 65), (0, 0), (1, 0), (4, 0), (TOP, 0)):
            self.tells((19, handle, place, 7), BAD)

    def test_cut(self):
        for place in (0, 1, 3):
            self.changes((20, 2, place, 9), with_nodes(files(), n2=("file", [30, 31, 32][:place])))
        self.changes((20, 7, 64), files())
        for handle, place in ((2, 4), (2, TOP), (7, 65), (0, 0), (1, 0), (4, 0), (TOP, 0)):
            self.tells((20, handle, place), BAD)

    def test_root_by_another_handle(self):
        world = with_handles(files(), {1: 0})
        wanted = with_nodes(world, n0=("folder", {9: 1, TOP: 5, 5: 2, 1: 6}), n6=("file", []))
        self.changes((12, 1, 1), wanted, world=world)


if __name__ == "__main__":
    unittest.main()
