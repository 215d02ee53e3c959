"""Promises 5.2 and 5.3: words through tables, and what pages want of frames."""

import random
import unittest

from bending import changed, kept
from test_frames import NOUGHTS, TOP, good_memories, just_enough, page, small
from underfloor.errors import NoRoom
from underfloor.frames import free_frames, memory_wrong, new_memory, page_of, promised
from underfloor.tables import ended_table, given_up, held_as, lent_out, new_page, parted_table, stored, word_at


def one_page(many, used):
    """So many frames; task 1 has own pages in the first ones, as many as used."""
    return {**new_memory(many), "held": [1] * used + [0] * (many - used),
            "tables": {1: {number: (number, "own") for number in range(used)}}}


def with_parts(memory, **parts):
    """A copy with parts changed: held0=1 changes held at 0, t1_5 the entry of task 1's page 5 (None takes it away)."""
    new = {**memory, "held": list(memory["held"]), "frames": list(memory["frames"]),
           "tables": {task: dict(table) for task, table in memory["tables"].items()}}
    for name, part in parts.items():
        if name.startswith("held"):
            new["held"][int(name[4:])] = part
        elif name.startswith("frame"):
            new["frames"][int(name[5:])] = part
        elif name == "lent":
            new["lent"] = part
        else:
            task, number = [int(word) for word in name[1:].split("_")]
            new["tables"].setdefault(task, {})[number] = part
            if part is None:
                new["tables"][task].pop(number)
    return new


class Good(unittest.TestCase):
    def deed(self, call, *parts):
        self.assertIsNone(memory_wrong(parts[0]))
        told = kept(self, call, *parts)
        self.assertIsNone(memory_wrong(told))
        return told

    def no_room(self, call, *parts):
        self.assertIsNone(memory_wrong(parts[0]))
        with self.assertRaises(NoRoom):
            kept(self, call, *parts)


class Words(Good):
    def test_word_at(self):
        for task, number, frame in ((1, 0, 1), (1, 4095, 3), (1, 7, 6), (1, 8, 6), (15, 0, 3), (15, 1, 3), (3, 0, 8)):
            for place in (0, 1, 15):
                told = kept(self, word_at, small(), task, number * 16 + place)
                self.assertEqual(told, frame * 100 + place)

    def test_no_such_page(self):
        for task, address in ((1, 16), (1, 4094 * 16 + 15), (1, 4096 * 16), (1, TOP), (2, 0), (4, 0), (14, 0), (16, 0)):
            self.assertIsNone(kept(self, word_at, small(), task, address))
            self.assertIsNone(kept(self, stored, small(), task, address, 5))

    def test_own(self):
        told = self.deed(stored, small(), 1, 3, TOP)
        self.assertEqual(told, with_parts(small(), frame1=(100, 101, 102, TOP) + page(100)[4:]))

    def test_lent(self):
        for task, number in ((1, 7), (1, 8), (3, 5)):
            told = self.deed(stored, small(), task, number * 16 + 15, 0)
            self.assertEqual(told, with_parts(small(), frame6=page(600)[:15] + (0,)))
            self.assertEqual([word_at(told, 1, 127), word_at(told, 1, 143), word_at(told, 3, 95)], [0, 0, 0])

    def test_parted_by_one_alone(self):
        told = self.deed(stored, small(), 15, 32, 9)
        self.assertEqual(told, with_parts(small(), frame4=(9,) + page(400)[1:], t15_2=(4, "own")))

    def test_parted_by_several(self):
        told = self.deed(stored, small(), 15, 16, 9)
        wanted = with_parts(small(), frame0=(9,) + page(300)[1:], t15_1=(0, "own"), held0=1, held3=2)
        self.assertEqual(told, wanted)
        self.assertEqual([word_at(told, 15, 0), word_at(told, 1, 4095 * 16)], [300, 300])
        told = self.deed(stored, told, 1, 4095 * 16 + 1, 8)
        wanted = with_parts(wanted, frame2=(300, 8) + page(300)[2:], t1_4095=(2, "own"), held2=1, held3=1)
        self.assertEqual(told, wanted)
        told = self.deed(stored, told, 15, 2, 7)
        self.assertEqual(told, with_parts(wanted, frame3=(300, 301, 7) + page(300)[3:], t15_0=(3, "own")))

    def test_a_store_never_lacks(self):
        memory = just_enough()
        for task, address in ((4, 0), (9, 16), (9, 0), (4, 16)):
            memory = self.deed(stored, memory, task, address, task)
        self.assertEqual([word_at(memory, task, address) for task in (4, 9) for address in (0, 16)], [4, 4, 9, 9])


class NewPages(Good):
    def test_takes_the_least_free_frame(self):
        told = self.deed(new_page, small(), 2, 4095)
        self.assertEqual(told, with_parts(small(), frame0=NOUGHTS, held0=1, t2_4095=(0, "own")))
        told = self.deed(new_page, told, 1, 1)
        self.assertEqual(told["tables"][1][1], (2, "own"))

    def test_of_a_task_without_a_table(self):
        self.assertEqual(self.deed(new_page, new_memory(4), 5, 0), with_parts(new_memory(4), held0=1, t5_0=(0, "own")))

    def test_just_enough(self):
        self.assertEqual(self.deed(new_page, one_page(4, 3), 1, 3), one_page(4, 4))
        self.no_room(new_page, one_page(4, 4), 1, 9)
        self.no_room(new_page, just_enough(), 4, 9)
        more = {**just_enough(), "frames": [NOUGHTS] * 5, "held": [2, 0, 2, 0, 0]}
        self.assertEqual(self.deed(new_page, more, 4, 9), with_parts(more, held1=1, t4_9=(1, "own")))


class Parting(Good):
    def test_parted(self):
        memory = {**small(), "frames": [NOUGHTS] * 10}
        told = self.deed(parted_table, memory, 1, 4)
        table = {0: (1, "parted"), 4095: (3, "parted"), 7: (6, "lent"), 8: (6, "lent")}
        wanted = with_parts(memory, held1=2, held3=4, held6=5)
        self.assertEqual(told, {**wanted, "tables": {**wanted["tables"], 1: table, 4: table}})

    def test_without_pages(self):
        memory = small()
        self.assertEqual(self.deed(parted_table, memory, 2, 9), {**memory, "tables": {**memory["tables"], 9: {}}})

    def test_just_enough(self):
        for many, used in ((4, 2), (8, 4), (64, 32), (5, 2)):
            told = self.deed(parted_table, one_page(many, used), 1, 2)
            self.assertEqual((promised(told), len(free_frames(told))), (used, many - used))
        for many, used in ((4, 3), (5, 3), (7, 4), (64, 33)):
            self.no_room(parted_table, one_page(many, used), 1, 2)
        self.no_room(parted_table, just_enough(), 4, 5)

    def test_lent_pages_want_nothing(self):
        memory = {**new_memory(4), "held": [1, 1, 1, 1], "lent": {1: 0, 2: 1, 3: 2, 4: 3},
                  "tables": {1: {n: (n, "lent") for n in range(4)}}}
        told = self.deed(parted_table, memory, 1, 2)
        self.assertEqual((told["held"], told["tables"][2]), ([2] * 4, memory["tables"][1]))

    def test_parted_again(self):
        told = parted_table(parted_table(one_page(7, 2), 1, 2), 2, 3)
        self.assertEqual((told["held"][:2], promised(told)), ([3, 3], 4))
        self.no_room(parted_table, told, 3, 4)
        told = self.deed(ended_table, told, 2)
        self.assertEqual((told["held"][:2], promised(told)), ([2, 2], 2))


class Others(Good):
    def test_given_up(self):
        told = self.deed(given_up, small(), 1, 0)
        self.assertEqual(told, with_parts(small(), t1_0=None, held1=0))
        told = self.deed(given_up, small(), 15, 1)
        self.assertEqual(told, with_parts(small(), t15_1=None, held3=2))
        told = self.deed(given_up, small(), 1, 7)
        self.assertEqual(told, with_parts(small(), t1_7=None, held6=2))
        told = self.deed(given_up, self.deed(given_up, told, 1, 8), 3, 5)
        self.assertEqual(told, with_parts(small(), t1_7=None, t1_8=None, t3_5=None, held6=0, lent={}))

    def test_lent_out(self):
        told = self.deed(lent_out, small(), 1, 0, 3)
        self.assertEqual(told, with_parts(small(), t1_0=(1, "lent"), lent={15: 6, 3: 1}))

    def test_lent_out_of_a_parted_page(self):
        told = self.deed(lent_out, small(), 15, 2, 1)
        self.assertEqual(told, with_parts(small(), t15_2=(4, "lent"), lent={15: 6, 1: 4}))
        told = self.deed(lent_out, small(), 15, 0, 1)
        wanted = with_parts(small(), frame0=page(300), t15_0=(0, "lent"), held0=1, held3=2, lent={15: 6, 1: 0})
        self.assertEqual(told, wanted)
        self.assertEqual(self.deed(lent_out, just_enough(), 9, 1, 1)["tables"][9], {0: (0, "parted"), 1: (1, "lent")})

    def test_held_as(self):
        told = self.deed(held_as, small(), 2, 15, 4095)
        self.assertEqual(told, with_parts(small(), t2_4095=(6, "lent"), held6=4))
        told = self.deed(held_as, told, 2, 15, 0)
        self.assertEqual((told["held"][6], told["tables"][2]), (5, {4095: (6, "lent"), 0: (6, "lent")}))

    def test_ended_table(self):
        wanted = {
            1: with_parts(small(), held1=0, held3=2, held6=1), 15: with_parts(small(), held3=1, held4=0),
            2: small(), 3: with_parts(small(), held6=2, held8=0),
        }
        for task, behind in wanted.items():
            behind["tables"].pop(task)
            self.assertEqual(self.deed(ended_table, small(), task), behind)
        told = self.deed(ended_table, ended_table(small(), 1), 3)
        self.assertEqual((told["lent"], told["held"]), ({}, [0, 0, 0, 2, 1, 0, 0, 0, 0, 0]))
        self.assertEqual(self.deed(ended_table, told, 15)["held"], [0] * 10)


class Many(unittest.TestCase):
    """Many deeds one behind the other, each held against pages that nobody shares but where they are lent."""

    def check(self, memory, pages, lent):
        self.assertIsNone(memory_wrong(memory))
        self.assertEqual(sorted(memory["tables"]), sorted(pages))
        for task, own in pages.items():
            self.assertEqual(sorted(memory["tables"][task]), sorted(own))
            for number, entry in own.items():
                words = lent[entry] if isinstance(entry, int) else entry
                self.assertEqual(page_of(memory, task, number), words)
        held = {entry for own in pages.values() for entry in own.values() if isinstance(entry, int)}
        self.assertEqual(sorted(memory["lent"]), sorted(held))

    def step(self, chance, memory, pages, lent):
        task = chance.choice(sorted(pages))
        own = pages[task]
        deed = chance.choice(("store", "store", "new", "part", "give", "lend", "hold", "end"))
        number = chance.choice(sorted(own)) if own else None
        free = chance.choice([n for n in range(6) if n not in own] or [None])
        held = sorted({entry for entries in pages.values() for entry in entries.values() if isinstance(entry, int)})
        beyond = len(free_frames(memory)) - promised(memory)
        if deed == "store" and own:
            place, word = chance.randrange(16), chance.randrange(TOP)
            memory = stored(memory, task, number * 16 + place, word)
            entry = own[number]
            words = lent[entry] if isinstance(entry, int) else entry
            words = words[:place] + (word,) + words[place + 1:]
            if isinstance(entry, int):
                lent[entry] = words
            else:
                own[number] = words
        elif deed == "new" and free is not None:
            if beyond < 1:
                with self.assertRaises(NoRoom):
                    new_page(memory, task, free)
                return memory
            memory = new_page(memory, task, free)
            own[free] = NOUGHTS
        elif deed == "part":
            child = min(n for n in range(1, 17) if n not in pages)
            if child == 16:
                return memory
            if beyond < len([entry for entry in own.values() if not isinstance(entry, int)]):
                with self.assertRaises(NoRoom):
                    parted_table(memory, task, child)
                return memory
            memory = parted_table(memory, task, child)
            pages[child] = dict(own)
        elif deed == "give" and own:
            memory = given_up(memory, task, number)
            own.pop(number)
        elif deed == "lend" and own and not isinstance(own[number], int) and len(held) < 15:
            told = min(n for n in range(1, 16) if n not in held)
            memory = lent_out(memory, task, number, told)
            lent[told] = own[number]
            own[number] = told
        elif deed == "hold" and held and free is not None:
            told = chance.choice(held)
            memory = held_as(memory, task, told, free)
            own[free] = told
        elif deed == "end" and len(pages) > 1 and chance.random() < 0.4:
            memory = ended_table(memory, task)
            pages.pop(task)
        return memory

    def test_many(self):
        for seed in range(30):
            chance = random.Random(seed)
            memory = {**new_memory(chance.choice((4, 5, 8, 16, 30, 64))), "tables": {1: {}}}
            pages, lent = {1: {}}, {}
            for turn in range(150):
                before = memory
                copy = changed(memory, ("held",), list(memory["held"]))
                memory = self.step(chance, memory, pages, lent)
                self.assertEqual(before, copy)
                self.check(memory, pages, lent)

    def test_each_deed_leaves_memories_good(self):
        for memory in good_memories():
            for task, table in memory["tables"].items():
                for number in table:
                    self.assertIsNone(memory_wrong(stored(memory, task, number * 16, 1)))
                    self.assertIsNone(memory_wrong(given_up(memory, task, number)))
                self.assertIsNone(memory_wrong(ended_table(memory, task)))


if __name__ == "__main__":
    unittest.main()
