"""Promises 3.1 and 3.2: pages, own and lent, the word at an address, and the calls 21 to 24."""

import unittest

from bending import kept
from plainworlds import BAD, LACK, NOUGHTS, RISING, TOP, many_tasks, state, task
from underfloor.pages import copied_pages, given_back, memory_call, nought_page, put_word_in, word_in

SEVENS = (7,) * 16


def lending():
    """Lent page 1 is held by both, twice by task 1; lent page 4 by task 2 alone."""
    return state({
        1: task(pages={0: ("own", RISING), 2: ("lent", 1), 3: ("lent", 1), 4095: ("own", SEVENS)}),
        2: task(pages={0: ("own", RISING), 9: ("lent", 1), 5: ("lent", 4)}),
        3: task(),
    }, lent={1: tuple(range(100, 116)), 4: SEVENS})


def pages_of(told, number):
    return told["tasks"][number]["pages"]


class Words(unittest.TestCase):
    def test_nought_page(self):
        self.assertEqual(nought_page(), NOUGHTS)
        self.assertIsInstance(nought_page(), tuple)

    def test_own_pages(self):
        for address in range(16):
            self.assertEqual(kept(self, word_in, lending(), 1, address), address)
        self.assertEqual(word_in(lending(), 1, 4095 * 16), 7)
        self.assertEqual(word_in(lending(), 1, 4095 * 16 + 15), 7)

    def test_lent_pages(self):
        for number, page in ((1, 2), (1, 3), (2, 9)):
            self.assertEqual(word_in(lending(), number, page * 16), 100)
            self.assertEqual(word_in(lending(), number, page * 16 + 15), 115)
        self.assertEqual(word_in(lending(), 2, 5 * 16 + 3), 7)

    def test_pages_that_are_not_the_tasks(self):
        for number, address in ((1, 16), (1, 31), (1, 64), (1, 4095 * 16 - 1), (1, 4096 * 16), (1, TOP), (2, 32), (2, 64),
                                (2, 4095 * 16), (3, 0), (3, TOP), (1, TOP + 1), (1, -1), (4, 0)):
            self.assertIsNone(kept(self, word_in, lending(), number, address))
            self.assertIsNone(kept(self, put_word_in, lending(), number, address, 5))


class PutWords(unittest.TestCase):
    def test_own_page_is_changed_for_this_task_alone(self):
        told = kept(self, put_word_in, lending(), 1, 3, TOP)
        wanted = lending()
        wanted["tasks"][1]["pages"][0] = ("own", (0, 1, 2, TOP) + RISING[4:])
        self.assertEqual(told, wanted)
        self.assertEqual(word_in(told, 2, 3), 3)

    def test_first_and_last_place(self):
        told = put_word_in(put_word_in(lending(), 1, 4095 * 16, 1), 1, 4095 * 16 + 15, 2)
        self.assertEqual(pages_of(told, 1)[4095], ("own", (1,) + SEVENS[2:] + (2,)))

    def test_lent_page_is_changed_for_all(self):
        for number, page in ((1, 2), (1, 3), (2, 9)):
            told = kept(self, put_word_in, lending(), number, page * 16 + 1, 0)
            wanted = lending()
            wanted["lent"][1] = (100, 0) + tuple(range(102, 116))
            self.assertEqual(told, wanted)
            self.assertEqual([word_in(told, 1, 33), word_in(told, 1, 49), word_in(told, 2, 145)], [0, 0, 0])

    def test_what_was_told_stays(self):
        first = put_word_in(lending(), 1, 0, 9)
        second = kept(self, put_word_in, first, 1, 0, 10)
        self.assertEqual([word_in(first, 1, 0), word_in(second, 1, 0)], [9, 10])


class Pages(unittest.TestCase):
    def test_copied_pages(self):
        told = kept(self, copied_pages, lending(), 1)
        self.assertEqual(told, pages_of(lending(), 1))
        self.assertEqual(copied_pages(lending(), 3), {})

    def test_copied_pages_are_another_dict(self):
        world = lending()
        self.assertIsNot(copied_pages(world, 1), pages_of(world, 1))

    def test_given_back(self):
        told = kept(self, given_back, lending(), 1)
        wanted = lending()
        wanted["tasks"][1]["pages"] = {}
        self.assertEqual(told, wanted)

    def test_given_back_by_the_last_holder(self):
        told = kept(self, given_back, lending(), 2)
        self.assertEqual(told["lent"], {1: tuple(range(100, 116))})
        told = given_back(told, 1)
        self.assertEqual((told["lent"], [pages_of(told, number) for number in (1, 2, 3)]), ({}, [{}, {}, {}]))


class MemoryCalls(unittest.TestCase):
    def call(self, world, *parts):
        return kept(self, memory_call, world, *parts)

    def bad(self, *parts):
        self.assertEqual(self.call(lending(), *parts), (lending(), BAD), parts)

    def test_page(self):
        for page in (1, 4094, 17):
            told, answer = self.call(lending(), 1, 21, page, 5)
            wanted = lending()
            wanted["tasks"][1]["pages"][page] = ("own", NOUGHTS)
            self.assertEqual((told, answer), (wanted, 0))
        self.assertEqual(pages_of(self.call(lending(), 3, 21, 4095, 0)[0], 3), {4095: ("own", NOUGHTS)})
        self.assertEqual(pages_of(self.call(lending(), 3, 21, 0, 0)[0], 3), {0: ("own", NOUGHTS)})

    def test_page_bad(self):
        for page in (0, 2, 4095, 4096, 4097, TOP):
            self.bad(1, 21, page, 0)

    def test_give(self):
        told, answer = self.call(lending(), 1, 22, 0, 9)
        wanted = lending()
        wanted["tasks"][1]["pages"].pop(0)
        self.assertEqual((told, answer), (wanted, 0))
        told, answer = self.call(lending(), 1, 22, 3, 9)
        wanted = lending()
        wanted["tasks"][1]["pages"].pop(3)
        self.assertEqual((told, answer), (wanted, 0))

    def test_give_of_the_last_holder(self):
        told, answer = self.call(lending(), 2, 22, 5, 0)
        wanted = lending()
        wanted["tasks"][2]["pages"].pop(5)
        wanted["lent"].pop(4)
        self.assertEqual((told, answer), (wanted, 0))

    def test_give_of_one_that_holds_twice(self):
        told = memory_call(memory_call(lending(), 2, 22, 9, 0)[0], 1, 22, 2, 0)[0]
        self.assertEqual(sorted(told["lent"]), [1, 4])
        told = memory_call(told, 1, 22, 3, 0)[0]
        self.assertEqual(sorted(told["lent"]), [4])
        told, answer = memory_call(told, 1, 23, 0, 0)
        self.assertEqual((answer, told["lent"][1]), (1, RISING))

    def test_give_bad(self):
        for page in (1, 5, 9, 4094, 4096, TOP):
            self.bad(1, 22, page, 0)

    def test_lend(self):
        told, answer = self.call(lending(), 1, 23, 0, 0)
        wanted = lending()
        wanted["tasks"][1]["pages"][0] = ("lent", 2)
        wanted["lent"][2] = RISING
        self.assertEqual((told, answer), (wanted, 2))
        told, answer = self.call(told, 1, 23, 4095, 0)
        self.assertEqual((answer, told["lent"][3], pages_of(told, 1)[4095]), (3, SEVENS, ("lent", 3)))
        told, answer = self.call(told, 2, 23, 0, 0)
        self.assertEqual((answer, told["lent"][5], pages_of(told, 2)[0]), (5, RISING, ("lent", 5)))

    def test_lend_bad(self):
        for page in (1, 2, 3, 9, 4096, TOP):
            self.bad(1, 23, page, 0)

    def test_fifteen_lent_pages(self):
        world = state({1: task(pages={page: ("own", (page,) * 16) for page in range(16)}), 2: task()})
        for page in range(15):
            world, answer = self.call(world, 1, 23, page, 0)
            self.assertEqual(answer, page + 1)
        self.assertEqual(self.call(world, 1, 23, 15, 0), (world, LACK))
        self.assertEqual(self.call(world, 1, 23, 14, 0), (world, BAD))
        held, answer = self.call(world, 2, 24, 8, 0)
        self.assertEqual((answer, pages_of(held, 2)), (0, {0: ("lent", 8)}))
        still = memory_call(held, 1, 22, 7, 0)[0]
        self.assertEqual(memory_call(still, 1, 23, 15, 0)[1], LACK)
        free = memory_call(still, 2, 22, 0, 0)[0]
        told, answer = memory_call(free, 1, 23, 15, 0)
        self.assertEqual((answer, told["lent"][8]), (8, (15,) * 16))

    def test_numbers_beyond_fifteen_leave_those_below_free(self):
        world = state({1: task(pages={0: ("lent", 16), 1: ("own", SEVENS)})}, lent={16: NOUGHTS})
        self.assertEqual(memory_call(world, 1, 23, 1, 0)[1], 1)

    def test_hold(self):
        told, answer = self.call(lending(), 3, 24, 1, 4095)
        wanted = lending()
        wanted["tasks"][3]["pages"][4095] = ("lent", 1)
        self.assertEqual((told, answer), (wanted, 0))
        told, answer = self.call(told, 3, 24, 1, 0)
        self.assertEqual((answer, pages_of(told, 3)), (0, {4095: ("lent", 1), 0: ("lent", 1)}))
        told, answer = self.call(lending(), 2, 24, 4, 6)
        self.assertEqual((answer, pages_of(told, 2)[6]), (0, ("lent", 4)))

    def test_hold_bad(self):
        for number, page in ((0, 7), (2, 7), (3, 7), (16, 7), (TOP, 7), (1, 0), (1, 2), (1, 4095), (1, 4096), (1, TOP)):
            self.bad(1, 24, number, page)

    def test_registers_are_another_ones_affair(self):
        world = state(many_tasks(2, regs=[5] * 8))
        self.assertEqual(memory_call(world, 2, 21, 0, 0)[0]["tasks"][2]["regs"], [5] * 8)


if __name__ == "__main__":
    unittest.main()
