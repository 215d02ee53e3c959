"""Promises 14.1 and 14.2: the desk, its rows and answers, and what it refuses."""

import unittest

from plainworlds import TOP
from programs import BELLS, ENDS, FILES, LETTERS, RANKS, call, program
from underfloor.desk import Desk
from underfloor.errors import NoNumber, NoRow, NoState, NoTask, NoText, UnderError

QUESTIONS = ("tasks", "files", "free")


def seen(desk):
    """All that the desk answers without changing anything."""
    told = [desk.say(row) for row in QUESTIONS]
    for number in range(1, 16):
        for row in (f"regs {number}", f"code {number}", f"word {number} 0", f"word {number} 31"):
            try:
                told.append(desk.say(row))
            except NoTask:
                told.append(None)
    return told


class Begun(unittest.TestCase):
    def test_no_text(self):
        for text, line in (("halt", 0), ("call\nhalt", 1), (None, 0), (5, 0), (["call"], 0), ("call\n", 1)):
            for frames, blocks in ((4, 32), (0, 0), (None, None)):
                with self.assertRaises(NoText) as refusal:
                    Desk(text, frames, blocks)
                self.assertEqual(refusal.exception.line, line)

    def test_no_state(self):
        for text, frames, blocks in (("", 4, 32), ("call", 3, 32), ("call", 65, 32), ("call", 4, 31), ("call", 4, 201),
                                     ("call", None, 32), ("call", 4, "32"), ("\n".join(["call"] * 65), 4, 32), ("name:", 4, 32)):
            with self.assertRaises(NoState):
                Desk(text, frames, blocks)

    def test_desks_are_by_themselves(self):
        one, other = Desk("put r1 5", 4, 32), Desk("put r1 5", 4, 32)
        before = seen(other)
        one.say("turn")
        self.assertEqual(seen(other), before)


class Rows(unittest.TestCase):
    def test_a_new_desk(self):
        desk = Desk("put r1 5\nword 4294967295", 5, 33)
        self.assertEqual(desk.say("tasks"), "1 ready")
        self.assertEqual(desk.say("files"), "none")
        self.assertEqual(desk.say("free"), "4 0 15")
        self.assertEqual(desk.say("regs 1"), "0 0 0 0 0 0 0 0 0")
        self.assertEqual(desk.say("code 1"), "put r1 5")
        self.assertEqual([desk.say(f"word 1 {address}") for address in (0, 1, 2, 15, 16)], ["4194309", str(TOP), "0", "0", "none"])

    def test_turn(self):
        desk = Desk("put r1 5\nword 4294967295", 5, 33)
        self.assertEqual(desk.say("turn"), "1")
        self.assertEqual(desk.say("turn"), "none")
        self.assertEqual(desk.say("tasks"), "none")
        self.assertEqual(desk.say("free"), "5 0 15")

    def test_turns(self):
        desk = Desk("again:\nadd r1 r1 r2\njump again", 4, 32)
        self.assertEqual(desk.say("turns 1"), "1")
        self.assertEqual(desk.say("turns 3"), "1 1 1")
        self.assertEqual(desk.say("turns 500"), " ".join(["1"] * 500))
        desk = Desk(ENDS, 4, 32)
        self.assertEqual(desk.say("turns 500"), "1")
        self.assertEqual(desk.say("turns 1"), "none")
        self.assertEqual(desk.say("turns 500"), "none")

    def test_turns_are_as_many_single_ones(self):
        one, other = Desk(RANKS, 16, 32), Desk(RANKS, 16, 32)
        told = one.say("turns 50")
        self.assertEqual(told, " ".join(other.say("turn") for turn in range(50)))
        self.assertEqual(seen(one), seen(other))
        self.assertEqual(set(told.split(" ")), {"1", "2", "3"})

    def test_turns_until_nobody_is_ready(self):
        desk = Desk(LETTERS, 16, 32)
        told = desk.say("turns 500").split(" ")
        self.assertEqual(set(told), {"1", "2"})
        self.assertLess(len(told), 40)
        self.assertEqual(desk.say("turn"), "none")

    def test_tasks(self):
        desk = Desk(LETTERS, 16, 32)
        told = []
        while desk.say("turn") != "none":
            told.extend(desk.say("tasks").split("; "))
        self.assertIn("1 ready", told)
        self.assertIn("2 ready", told)
        self.assertTrue({"1 take 1", "2 send 1"} & set(told), told)

    def test_tasks_that_wait_for_children_and_that_ended(self):
        text = program(call(1), "if r0 away", "word 4294967295", "away:", "put r6 9", "again:", "put r5 1", "less r6 r6 r5",
                       "if r6 again", call(1), "if r0 parent", "here:", "jump here", "parent:", call(2), call(2))
        desk = Desk(text, 16, 32)
        told = [desk.say("tasks")]
        for turn in range(12):
            desk.say("turn")
            told.append(desk.say("tasks"))
        self.assertIn("1 ready; 2 ended 4294967281", told)
        self.assertEqual(told[-1], "1 child; 3 ready")

    def test_ended_tasks_at_the_desk(self):
        desk = Desk(program(call(1), "if r0 away", "put r1 258", "put r0 0", "call", "away:", "jump away"), 16, 32)
        desk.say("turns 5")
        self.assertEqual(desk.say("tasks"), "1 ready; 2 ended 258")
        self.assertEqual(desk.say("regs 2"), "6 0 258 0 0 0 0 0 0")
        self.assertEqual((desk.say("word 2 0"), desk.say("code 2")), ("none", "none"))
        with self.assertRaises(NoTask):
            desk.say("ring 2")
        with self.assertRaises(NoTask):
            desk.say("stop 2 0")

    def test_regs(self):
        desk = Desk("put r1 5\nhigh r7 65535\njump 1", 5, 33)
        desk.say("turn")
        self.assertEqual(desk.say("regs 1"), f"2 0 5 0 0 0 0 0 {65535 * 65536}")

    def test_word(self):
        desk = Desk("\n".join(["word 7"] * 17), 5, 33)
        for address, word in ((0, "7"), (16, "7"), (17, "0"), (31, "0"), (32, "none"), (TOP, "none"), (TOP + 1, "none"),
                              (9999999999, "none"), (4096 * 16, "none"), (TOP + 1 + 16, "none")):
            self.assertEqual(desk.say(f"word 1 {address}"), word)

    def test_code(self):
        text = "load r1 r2 16"
        desk = Desk(text, 4, 32)
        self.assertEqual(desk.say("code 1"), text)
        self.assertEqual(Desk("word 4294967295", 4, 32).say("code 1"), "none")
        self.assertEqual(Desk("name:\nif r3 name", 4, 32).say("code 1"), "if r3 0")
        desk = Desk("jump 16", 4, 32)
        desk.say("turn")
        self.assertEqual(desk.say("tasks"), "none")
        desk = Desk(BELLS, 4, 32)
        desk.say("turns 9")
        self.assertEqual(desk.say("code 1"), "jump 6")

    def test_files(self):
        desk = Desk(FILES, 8, 40)
        told = [desk.say("files")]
        while desk.say("turn") != "none":
            told.append(desk.say("files"))
        self.assertEqual(told[0], "none")
        self.assertIn("5 file; 9 folder", told)
        self.assertEqual(told[-1], "5 file 70; 9 folder")

    def test_paths_are_sorted_as_lists_of_numbers(self):
        makes = [call(number, handle, name) for number, handle, name in (
            (11, 0, 10), (11, 0, 9), (12, 0, 100), (11, 0, 2))]
        inner = [call(14, 0, 10), call(12, 1, 5), call(11, 1, 40), call(14, 1, 40), call(12, 2, 7), call(14, 0, 2), call(12, 3, 11)]
        desk = Desk(program(*makes, *inner, ENDS), 16, 60)
        desk.say("turns 500")
        wanted = "2 folder; 2/11 file; 9 folder; 10 folder; 10/5 file; 10/40 folder; 10/40/7 file; 100 file"
        self.assertEqual(desk.say("files"), wanted)

    def test_files_with_words(self):
        desk = Desk(program(call(12, 0, 65535), call(14, 0, 65535), call(19, 1, 0, 3), call(19, 1, 1, 0), ENDS), 16, 40)
        desk.say("turns 500")
        self.assertEqual(desk.say("files"), "65535 file 3 0")

    def test_free(self):
        desk = Desk(program(call(1), "here:", "jump here"), 4, 32)
        self.assertEqual(desk.say("free"), "3 0 15")
        desk.say("turn")
        self.assertEqual(desk.say("free"), "3 1 15")

    def test_ring(self):
        desk = Desk(BELLS, 4, 32)
        for bells in range(3):
            self.assertIn("1", desk.say("turns 500"))
            self.assertEqual((desk.say("tasks"), desk.say("word 1 31")), ("1 take 1", str(bells)))
            self.assertEqual(desk.say("ring 1"), "ok")
            self.assertEqual(desk.say("tasks"), "1 ready")

    def test_stop(self):
        # Behind one turn, of eight rows, the next one is the call, which has ten writings.
        text = program("put r5 1", "put r5 2", "put r5 3", "put r5 4", "put r5 5", call(12, 0, 5), call(11, 0, 9))
        for many in range(11):
            desk = Desk(text, 4, 32)
            desk.say("turn")
            self.assertEqual(desk.say("code 1"), "call")
            self.assertEqual(desk.say(f"stop 1 {many}"), "ok")
            self.assertEqual(desk.say("files"), "none" if many <= 4 else "5 file")
            self.assertEqual((desk.say("tasks"), desk.say("turn")), ("none", "none"))
            self.assertEqual(desk.say("free"), "4 0 15" if many <= 4 else "4 0 13")

    def test_stop_amid_no_writing(self):
        desk = Desk("call", 4, 32)
        with self.assertRaises(NoNumber):
            desk.say("stop 1 1")
        self.assertEqual(desk.say("tasks"), "1 ready")
        self.assertEqual(desk.say("stop 1 0"), "ok")
        self.assertEqual(desk.say("tasks"), "none")


NO_ROWS = (
    "", " ", "turn ", " turn", "turn 1", "Turn", "TURN", "turns", "turns 0", "turns 501", "turns 1000", "turns 9999999999", "turns 1 1",
    "turns  1", "turns 1 ", "turns 01", "turns -1", "turns +1", "turns 1.0", "turns one", "turns 00", "turns 00000000001",
    "turns 1\n", "turn\n", "ring", "ring ", "ring 1 1", "ring 01", "ring 00", "ring x", "ring -1", "ring 12345678901",
    "ring 10000000000", "ring  1", "tasks 1", "task", "tasks ", "regs", "regs 1 1", "regs 01", "regs r1", "word", "word 1", "word 1 1 1",
    "word 01 1", "word 1 01", "word 1 x", "word 1 12345678901", "word 1  1", "word\t1 1", "code", "code 1 1", "code 01", "files 1",
    "file", "free 1", "frees", "stop", "stop 1", "stop 1 1 1", "stop 01 1", "stop 1 01", "stop 1 x", "stop 1 -1", "stop 1 00000000000",
    "stop 99 01", "ring 99 ", "turn\nturn", "step 1", "halt", "1", "none",
    None, 5, True, [], ["turn"], ("turn",), {}, {"turn": 0}, b"turn", 1.0,
)


class Refused(unittest.TestCase):
    def desk(self):
        desk = Desk(program(call(12, 0, 5), call(1), "if r0 away", ENDS, "away:", call(4, 1), call(1), "if r0 here",
                            call(6, 1), "here:", "jump here"), 8, 40)
        desk.say("turns 20")
        return desk

    def refuses(self, desk, error, row):
        before = seen(desk)
        with self.assertRaises(error, msg=repr(row)):
            desk.say(row)
        self.assertEqual(seen(desk), before)

    def test_no_row(self):
        desk = self.desk()
        for row in NO_ROWS:
            self.refuses(desk, NoRow, row)

    def test_figures_that_python_takes(self):
        desk = self.desk()
        for row in ("turns \u0661", "turns \u00b2", "ring \uff11", "turns 1_0", "turns 0x1"):
            self.refuses(desk, NoRow, row)

    def test_no_task(self):
        desk = self.desk()
        self.assertEqual(desk.say("tasks"), "1 ready; 2 ended 7; 3 take 1")
        for row in ("ring 0", "ring 2", "ring 4", "ring 15", "ring 16", "ring 9999999999", "regs 0", "regs 4", "regs 16",
                    "regs 9999999999", "word 0 0", "word 4 0", "word 16 9999999999", "code 0", "code 4", "code 16", "stop 0 0", "stop 2 0",
                    "stop 3 0", "stop 4 0", "stop 4 99", "stop 3 9999999999", "stop 16 0"):
            self.refuses(desk, NoTask, row)
        for row in ("regs 2", "word 2 0", "code 2", "regs 3"):
            desk.say(row)

    def test_no_number(self):
        desk = self.desk()
        for row in ("stop 1 1", "stop 1 10", "stop 1 9999999999"):
            self.refuses(desk, NoNumber, row)

    def test_all_are_refusals(self):
        desk = self.desk()
        for row in ("halt", "regs 4", "stop 1 1"):
            self.refuses(desk, UnderError, row)

    def test_the_desk_goes_on(self):
        desk, other = self.desk(), self.desk()
        for row in ("halt", "regs 4", "stop 1 1", None):
            with self.assertRaises(UnderError):
                desk.say(row)
        for row in ("turns 3", "ring 1", "turns 7", "tasks", "regs 1", "files", "free"):
            self.assertEqual(desk.say(row), other.say(row))


if __name__ == "__main__":
    unittest.main()
