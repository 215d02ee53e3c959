"""Programs for the tests, as texts: each does some calls, one behind the other."""


def call(number, a=None, b=None, c=None):
    """Rows that do a call with these words; None leaves the register as it was."""
    rows = [f"put r{place} {word}" for place, word in ((1, a), (2, b), (3, c)) if word is not None]
    return "\n".join([f"put r0 {number}"] + rows + ["call"])


def program(*parts):
    return "\n".join(parts)


ENDS = call(0, 7)
# A file and a folder, words written, a name dropped.
FILES = program(
    call(12, 0, 5), call(11, 0, 9), call(14, 0, 5), call(19, 1, 0, 70), call(19, 1, 1, 71), call(14, 0, 9), call(12, 2, 3),
    call(20, 1, 1), call(13, 2, 3), ENDS)
# It parts; the child sends nine letters into a box of four, the parent takes them and stores them from address 208 on,
# then waits for it, and stores its id and its code behind.
LETTERS = program(
    call(21, 13), call(4, 4), "copy r7 r0", call(1), "if r0 parent",
    "again:", "put r0 5", "copy r1 r7", "copy r2 r6", "call", "put r5 1", "add r6 r6 r5", "put r5 9", "under r4 r6 r5",
    "if r4 again", call(0, 3),
    "parent:", "put r0 6", "copy r1 r7", "call", "store r1 r6 208", "put r5 1", "add r6 r6 r5", "put r5 9",
    "under r4 r6 r5", "if r4 parent", call(2), "store r0 r6 208", "store r1 r6 209", ENDS)
# Its handler counts bells at address 31; it waits to take, again and again.
BELLS = program(
    call(8, 10), call(4, 1), "put r1 1", "put r0 6", "call", "jump 6",
    "put r2 31", "load r3 r2 0", "put r4 1", "add r3 r3 r4", "store r3 r2 0", call(10))
# Three that run without end, of unlike ranks.
RANKS = program(call(1), "if r0 first", call(3, 0), "jump away", "first:", call(1), "if r0 second", call(3, 3),
                "jump away", "second:", call(3, 2), "away:", "add r6 r6 r7", "jump away")
