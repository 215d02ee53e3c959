"""Promise 3.3: a row of a task's code on the plain machine."""

import unittest

from bending import kept
from plainworlds import NOUGHTS, TOP, regs, state, task
from underfloor.code import coded
from underfloor.plainrows import plain_row


def paged(words):
    return ("own", tuple(words) + (0,) * (16 - len(words)))


def world_of(row, own_regs, at=0, **news):
    """Task 1 with this row at its next address, on page 0 or 4095; 2 holds the lent page 1, as does 1."""
    code = NOUGHTS[:at % 16] + (coded(row),) + NOUGHTS[at % 16 + 1:]
    pages = {at // 16: ("own", code), 5: ("lent", 1), 6: ("own", tuple(range(16)))}
    one = task(regs=own_regs, row=at, pages=pages, **news)
    return state({1: one, 2: task(pages={0: ("lent", 1)}, regs=[4] * 8)}, lent={1: tuple(range(200, 216))})


# row, registers ahead, registers behind.
RECKONED = (
    (("put", 7, 65535), regs(1), [1, 0, 0, 0, 0, 0, 0, 65535]),
    (("put", 0, 0), regs(TOP), regs(0)),
    (("high", 1, 65535), regs(0, TOP), regs(0, TOP)),
    (("high", 1, 1), regs(0, 65536 + 5), regs(0, 65536 + 5)),
    (("high", 1, 2), regs(0, 65536 + 5), regs(0, 131072 + 5)),
    (("copy", 2, 1), regs(0, TOP, 4), regs(0, TOP, TOP)),
    (("add", 0, 1, 2), regs(9, TOP, 1), regs(0, TOP, 1)),
    (("add", 1, 1, 1), regs(9, 2 ** 31), regs(9, 0)),
    (("less", 0, 1, 2), regs(9, 0, 1), regs(TOP, 0, 1)),
    (("less", 0, 1, 2), regs(9, 5, 3), regs(2, 5, 3)),
    (("times", 0, 1, 2), regs(9, 2 ** 16, 2 ** 16), regs(0, 2 ** 16, 2 ** 16)),
    (("times", 0, 1, 2), regs(9, TOP, TOP), regs(1, TOP, TOP)),
    (("cut", 0, 1, 2), regs(9, TOP, 2), regs(2 ** 31 - 1, TOP, 2)),
    (("rest", 0, 1, 2), regs(9, TOP, 16), regs(15, TOP, 16)),
    (("under", 0, 1, 2), regs(9, 3, 4), regs(1, 3, 4)),
    (("under", 0, 1, 2), regs(9, 4, 4), regs(0, 4, 4)),
    (("same", 0, 1, 2), regs(9, 4, 4), regs(1, 4, 4)),
    (("same", 0, 1, 2), regs(9, 4, TOP), regs(0, 4, TOP)),
)
# row, registers ahead, the next row's address.
LEAPS = (
    (("jump", 0), regs(), 0), (("jump", 65535), regs(), 65535), (("if", 3, 40), regs(0, 0, 0, 1), 40),
    (("if", 3, 40), regs(0, 0, 0, TOP), 40), (("if", 3, 40), regs(1, 1, 1, 0), None),
)
# row, registers, the fault.
FAULTS = (
    (("cut", 0, 1, 2), regs(9, 5, 0), "cut"), (("rest", 2, 1, 2), regs(9, 5, 0), "cut"),
    (("load", 0, 1, 0), regs(0, 7 * 16), "page"), (("load", 0, 1, 0), regs(0, TOP), "page"),
    (("load", 0, 1, 65535), regs(0, TOP - 65535), "page"), (("store", 0, 1, 16), regs(0, 6 * 16), "page"),
    (("store", 0, 1, 1), regs(0, 5 * 16 - 2), "page"),
)


class PlainRow(unittest.TestCase):
    def row(self, world):
        return kept(self, plain_row, world, 1)

    def test_rows_that_reckon(self):
        for row, ahead, behind in RECKONED:
            for at in (0, 15, 4095 * 16 + 15):
                world = world_of(row, ahead, at, rung=True, handler=7)
                wanted = world_of(row, behind, at, rung=True, handler=7)
                wanted["tasks"][1]["row"] = at + 1
                self.assertEqual(self.row(world), (wanted, ("row",)), row)

    def test_leaps(self):
        for row, ahead, behind in LEAPS:
            world = world_of(row, ahead, 3)
            wanted = world_of(row, ahead, 3)
            wanted["tasks"][1]["row"] = 4 if behind is None else behind
            self.assertEqual(self.row(world), (wanted, ("row",)), row)

    def test_load(self):
        for row, ahead, word in (
                (("load", 0, 1, 0), regs(9, 5 * 16), 200), (("load", 0, 1, 31), regs(9, 5 * 16), 15),
                (("load", 0, 1, 65535), regs(9, 2 ** 32 - 65535 + 97), 1), (("load", 1, 1, 3), regs(9, 93), 0)):
            told, what = self.row(world_of(row, ahead))
            wanted = world_of(row, ahead)
            wanted["tasks"][1]["row"] = 1
            wanted["tasks"][1]["regs"][row[1]] = word
            self.assertEqual((told, what), (wanted, ("row",)), row)

    def test_store_into_an_own_page(self):
        row = ("store", 2, 1, 65535)
        ahead = regs(9, 2 ** 32 - 65535 + 111, 44)
        wanted = world_of(row, ahead)
        wanted["tasks"][1]["pages"][6] = ("own", tuple(range(15)) + (44,))
        wanted["tasks"][1]["row"] = 1
        self.assertEqual(self.row(world_of(row, ahead)), (wanted, ("row",)))

    def test_store_into_a_lent_page(self):
        row = ("store", 1, 1, 2)
        wanted = world_of(row, regs(9, 80))
        wanted["lent"][1] = (200, 201, 80) + tuple(range(203, 216))
        wanted["tasks"][1]["row"] = 1
        told = self.row(world_of(row, regs(9, 80)))
        self.assertEqual(told, (wanted, ("row",)))
        load = plain_row({**told[0], "tasks": {
            2: task(pages={0: ("lent", 1), 1: paged([coded(("load", 0, 1, 2))])}, row=16)}}, 2)
        self.assertEqual(load[0]["tasks"][2]["regs"][0], 80)

    def test_store_into_the_code_itself(self):
        row = ("store", 2, 1, 0)
        told = self.row(world_of(row, regs(0, 0, TOP)))[0]
        self.assertEqual(kept(self, plain_row, changed_row(told, 0), 1)[1], ("fault", "code"))

    def test_call(self):
        for words in ((0, 1, 2, 3), (TOP, TOP, TOP, TOP), (24, 0, 0, 0)):
            world = world_of(("call",), regs(*words, 4, 5))
            wanted = world_of(("call",), regs(*words, 4, 5))
            wanted["tasks"][1]["row"] = 1
            self.assertEqual(self.row(world), (wanted, ("call",) + words))

    def test_faults_of_rows(self):
        for row, ahead, word in FAULTS:
            world = world_of(row, ahead, 7)
            self.assertEqual(self.row(world), (world_of(row, ahead, 7), ("fault", word)), row)

    def test_fault_of_a_fetch(self):
        for at in (16, 4 * 16, 4095 * 16, 4096 * 16, TOP):
            world = changed_row(world_of(("call",), regs()), at)
            self.assertEqual(self.row(world), (world, ("fault", "page")))

    def test_fault_of_a_word_that_writes_no_row(self):
        for word in (1 << 22, 15 << 25, TOP, coded(("call",)) + 1, coded(("copy", 1, 1)) + 1):
            world = state({1: task(pages={0: paged([word])})})
            fault = ("fault", "code") if word != 1 << 22 else ("row",)
            self.assertEqual(self.row(world)[1], fault)
            if fault[0] == "fault":
                self.assertEqual(self.row(world)[0], world)

    def test_row_fetched_from_a_lent_page(self):
        world = state({1: task(pages={3: ("lent", 4)}, row=48)}, lent={4: (coded(("put", 0, 5)),) + (0,) * 15})
        self.assertEqual(self.row(world)[0]["tasks"][1]["regs"], regs(5))

    def test_the_address_behind_the_last_page(self):
        told = self.row(world_of(("put", 0, 5), regs(), 4095 * 16 + 15))[0]
        self.assertEqual(told["tasks"][1]["row"], 4096 * 16)
        self.assertEqual(plain_row(told, 1), (told, ("fault", "page")))

    def test_what_was_told_stays(self):
        first = plain_row(world_of(("put", 0, 5), regs()), 1)[0]
        kept(self, plain_row, first, 1)


def changed_row(world, at):
    world["tasks"][1]["row"] = at
    return world


if __name__ == "__main__":
    unittest.main()
