"""Promises 2.1 and 2.2: a program's text read to words, and words written as a text."""

import random
import unittest

from underfloor.code import coded
from underfloor.errors import NoText
from underfloor.texts import read_code, shown_code

ROWS = (
    ("put r1 16", ("put", 1, 16)), ("high r7 65535", ("high", 7, 65535)), ("copy r0 r7", ("copy", 0, 7)),
    ("add r1 r2 r3", ("add", 1, 2, 3)), ("less r7 r0 r7", ("less", 7, 0, 7)), ("times r0 r7 r0", ("times", 0, 7, 0)),
    ("cut r4 r5 r6", ("cut", 4, 5, 6)), ("rest r6 r5 r4", ("rest", 6, 5, 4)), ("under r0 r0 r7", ("under", 0, 0, 7)),
    ("same r3 r3 r3", ("same", 3, 3, 3)), ("load r1 r2 16", ("load", 1, 2, 16)),
    ("store r7 r7 65535", ("store", 7, 7, 65535)), ("jump 0", ("jump", 0)), ("if r3 256", ("if", 3, 256)),
    ("call", ("call",)),
)
NAMES_OF_ROWS = ("put", "high", "copy", "add", "less", "times", "cut", "rest", "under", "same", "load", "store",
                 "jump", "if", "call")
NO_LINES = (
    # blanks
    "", " ", "  ", " call", "call ", "put  r1 1", "put r1  1", "put r1 1 ", " put r1 1", "put\tr1 1", "call\t",
    "call\r", "call\r\ncall", "call\x0b", "call\x0c",
    # words
    "Call", "CALL", "halt", "calls", "cal", "r1", "5", "#", "call:", "call;", "call call", "word", "words 5",
    # parts too many or too few
    "put", "put r1", "put r1 1 1", "high r1", "copy r1", "copy r1 r2 r3", "add r1 r2", "add r1 r2 r3 r4",
    "load r1 r2", "load r1 r2 1 1", "store r1 1", "jump", "jump 1 1", "if r1", "if 1", "if r1 1 1", "call 0",
    "word 1 1", "word r1",
    # registers
    "copy r8 r0", "copy r0 r8", "add r0 r0 r8", "add r0 r8 r0", "copy r r0", "copy r00 r0", "copy R0 r0",
    "copy 0 r0", "copy r0 0", "copy r-1 r0", "copy r10 r0", "copy r01 r1", "copy 0r r1", "add r0 r0 0", "load r0 5 0",
    "put 0 0", "put r8 0", "if 0 0", "if r8 0", "put : 0",
    # numbers
    "put r1 01", "put r1 00", "put r1 65536", "put r1 100000", "put r1 -1", "put r1 +1", "put r1 1_0", "put r1 0x1",
    "put r1 1.0", "put r1 r1", "high r1 65536", "high r1 007", "load r1 r2 65536", "load r1 r2 010",
    "store r1 r2 65536", "jump 65536", "jump 00", "jump r1", "if r1 65536", "if r1 01", "load r1 r2 r3",
    "store r1 r2 r3", "word 4294967296", "word 00", "word 01", "word -1", "word +1", "word 4294967295 ", "word  5",
    "word 0x5", "word 99999999999", "word " + "9" * 5000, "put r1 " + "9" * 5000, "word 1e3",
    # names
    ":", "abcdefghi:", "A:", "aB:", "a1:", "a_b:", "a-b:", "a b:", "a :", " a:", "a: ", "a::", "a:b", "a", "name",
    "word:", "a: call", "jump abcdefghi", "jump A", "jump a1", "jump a:", "jump word", "put r1 word", "if r1 word",
    "high r1 a", "load r1 r2 a", "store r1 r2 a", "word a", "copy r1 a", "put a 1", "if a 1",
)


class ReadCode(unittest.TestCase):
    def reads(self, text, rows):
        words = [row if isinstance(row, int) else coded(row) for row in rows]
        self.assertEqual(read_code(text), words)
        self.assertIs(type(read_code(text)), list)

    def refused(self, text, line):
        with self.assertRaises(NoText) as caught:
            read_code(text)
        self.assertEqual(caught.exception.line, line, text)
        self.assertIs(type(caught.exception.line), int)

    def test_each_row(self):
        for line, row in ROWS:
            self.reads(line, [row])
        self.reads("\n".join([line for line, row in ROWS]), [row for line, row in ROWS])

    def test_bounds(self):
        self.reads("put r0 0\nput r7 65535\nload r0 r0 0\njump 65535\nif r7 65535",
                   [("put", 0, 0), ("put", 7, 65535), ("load", 0, 0, 0), ("jump", 65535), ("if", 7, 65535)])

    def test_the_text_without_signs(self):
        self.reads("", [])

    def test_words_as_such(self):
        self.reads("word 0\nword 10\nword 4294967295\nword 469762048", [0, 10, 2 ** 32 - 1, 14 * 2 ** 25])

    def test_names_ahead_between_and_behind(self):
        self.reads("start:\ncall\njump start", [("call",), ("jump", 0)])
        self.reads("call\nmid:\ncall\njump mid", [("call",), ("call",), ("jump", 1)])
        self.reads("jump mid\ncall\nmid:\ncall", [("jump", 2), ("call",), ("call",)])
        self.reads("call\njump over\nover:", [("call",), ("jump", 2)])

    def test_names_in_put_jump_and_if(self):
        self.reads("call\na:\nput r5 a\njump a\nif r7 a", [("call",), ("put", 5, 1), ("jump", 1), ("if", 7, 1)])

    def test_words_as_such_have_addresses(self):
        self.reads("jump a\nword 7\na:\nword 9", [("jump", 2), 7, 9])

    def test_several_names_for_one_address(self):
        self.reads("a:\nb:\ncall\nc:\nd:\nput r0 a\nput r0 b\nput r0 c\nput r0 d\n"
                   "e:\nf:\njump e\njump f\ng:\nh:\njump h",
                   [("call",), ("put", 0, 0), ("put", 0, 0), ("put", 0, 1), ("put", 0, 1), ("jump", 5), ("jump", 5),
                    ("jump", 7)])

    def test_names_alone(self):
        self.reads("a:", [])
        self.reads("a:\nb:\nc:", [])

    def test_which_names_there_are(self):
        for name in ("a", "z", "abcdefgh", "zzzzzzzz", "puts", "cal", "words", "wor", "r", "iff", "end"):
            self.reads(f"call\n{name}:\njump {name}", [("call",), ("jump", 1)])

    def test_names_that_are_words_of_rows(self):
        for name in NAMES_OF_ROWS + ("word",):
            self.refused(f"call\n{name}:", 1)
            self.refused(f"call\njump {name}", 1)
            self.refused(f"call\nput r0 {name}", 1)
            self.refused(f"call\nif r0 {name}", 1)

    def test_what_is_no_line(self):
        for line in NO_LINES:
            if line != "":
                self.refused(line, 0)
            self.refused(line + "\ncall", 0)
            self.refused("call\na:\n" + line, 2)
            self.refused("call\n" + line + "\n" + line, 1)

    def test_empty_lines(self):
        self.refused("\n", 0)
        self.refused("call\n", 1)
        self.refused("\ncall", 0)
        self.refused("call\n\ncall", 1)
        self.refused("call\ncall\n\n", 2)

    def test_a_name_told_anew(self):
        self.refused("a:\na:", 1)
        self.refused("a:\ncall\nb:\na:\nb:", 3)
        self.refused("jump a\na:\ncall\na:", 3)

    def test_a_name_that_no_line_tells(self):
        self.refused("jump a", 0)
        self.refused("call\nput r0 a", 1)
        self.refused("b:\ncall\nif r1 a\njump c", 2)
        self.refused("a:\njump a\njump b\njump c", 2)

    def test_no_line_and_a_name_anew_go_by_the_first(self):
        self.refused("a:\na:\nhalt", 1)
        self.refused("a:\nhalt\na:", 1)

    def test_no_line_goes_ahead_of_a_name_that_no_line_tells(self):
        self.refused("jump b\ncall\nhalt", 2)
        self.refused("jump b\na:\na:", 2)

    def test_the_count(self):
        self.reads("\n".join(["call"] * 256), [("call",)] * 256)
        self.refused("\n".join(["call"] * 257), 256)
        self.refused("\n".join(["call"] * 400), 256)
        self.refused("\n".join(["word 1"] * 257), 256)

    def test_names_do_not_count(self):
        self.reads("\n".join(["a:", "b:"] + ["call"] * 256 + ["c:"]), [("call",)] * 256)
        self.refused("\n".join(["a:", "b:"] + ["call"] * 100 + ["c:"] + ["call"] * 157 + ["d:"]), 259)

    def test_a_name_behind_256_words(self):
        self.reads("\n".join(["jump end"] + ["call"] * 255 + ["end:"]), [("jump", 256)] + [("call",)] * 255)

    def test_the_count_goes_behind_all_else(self):
        many = ["call"] * 300
        self.refused("\n".join(many + ["halt"]), 300)
        self.refused("\n".join(["a:"] + many + ["a:"]), 301)
        self.refused("\n".join(many + ["jump a"]), 300)
        self.refused("\n".join(["jump a"] + many), 0)
        self.refused("\n".join(["jump a"] + many + ["halt"]), 301)

    def test_what_is_no_text(self):
        for thing in (None, True, False, 0, 5, 1.5, b"call", [], ["call"], (), ("call",), {}, {"call": 1}, object()):
            self.refused(thing, 0)


class ShownCode(unittest.TestCase):
    def test_each_row(self):
        for line, row in ROWS:
            self.assertEqual(shown_code([coded(row)]), line)

    def test_words_that_write_none(self):
        self.assertEqual(shown_code([2 ** 32 - 1]), "word 4294967295")
        self.assertEqual(shown_code([14 * 2 ** 25 + 1]), "word 469762049")
        self.assertEqual(shown_code([15 * 2 ** 25]), "word 503316480")
        self.assertEqual(shown_code([2 ** 16]), "word 65536")

    def test_several(self):
        words = [0, 2 ** 31, coded(("load", 1, 2, 16))]
        self.assertEqual(shown_code(words), "put r0 0\nword 2147483648\nload r1 r2 16")
        self.assertEqual(words, [0, 2 ** 31, coded(("load", 1, 2, 16))])

    def test_the_empty_list(self):
        self.assertEqual(shown_code([]), "")

    def test_what_is_written_is_read_to_the_same(self):
        chance = random.Random(2)
        for many in (0, 1, 2, 5, 100, 256):
            for turn in range(20):
                words = [chance.randrange(chance.choice((2 ** 29, 2 ** 32))) for place in range(many)]
                words = [word - word % chance.choice((1, 2 ** 16)) for word in words]
                self.assertEqual(read_code(shown_code(words)), words)

    def test_each_row_there_and_back(self):
        words = [coded(row) for line, row in ROWS]
        self.assertEqual(read_code(shown_code(words)), words)


if __name__ == "__main__":
    unittest.main()
