"""Rows of a task's code: what one does, whoever keeps the memory, and a row of the plain machine."""

from underfloor.code import decoded, reckoned
from underfloor.pages import put_word_in, word_in
from underfloor.plainstates import with_task
from underfloor.words import rounded


def row_deed(regs, at, word_told):
    """What the row at this address does, as a tuple (told, regs, next row's address, store).

    word_told tells the word at an address, or None. store is None, or a tuple (address, word): the memory is the
    caller's to change.
    """
    word = word_told(at)
    if word is None:
        return fault_deed(regs, at, "page")
    row = decoded(word)
    if row is None:
        return fault_deed(regs, at, "code")
    if row[0] in ("load", "store"):
        return memory_deed(row, regs, at, word_told)
    if row[0] in ("jump", "if", "call"):
        return leap_deed(row, regs, at)
    result = reckoned(row, regs)
    if result is None:
        return fault_deed(regs, at, "cut")
    return (("row",), with_reg(regs, row[1], result), rounded(at + 1), None)


def fault_deed(regs, at, word):
    return (("fault", word), regs, at, None)


def with_reg(regs, place, word):
    new = list(regs)
    new[place] = word
    return new


def memory_deed(row, regs, at, word_told):
    address = rounded(regs[row[2]] + row[3])
    word = word_told(address)
    if word is None:
        return fault_deed(regs, at, "page")
    if row[0] == "load":
        return (("row",), with_reg(regs, row[1], word), rounded(at + 1), None)
    return (("row",), regs, rounded(at + 1), (address, regs[row[1]]))


def leap_deed(row, regs, at):
    if row[0] == "call":
        return (("call", regs[0], regs[1], regs[2], regs[3]), regs, rounded(at + 1), None)
    if row[0] == "if" and regs[row[1]] == 0:
        return (("row",), regs, rounded(at + 1), None)
    return (("row",), regs, row[-1], None)


def is_fault(told):
    return told[0] == "fault"


def plain_row(state, task):
    own = state["tasks"][task]
    deed = row_deed(own["regs"], own["row"], lambda address: word_in(state, task, address))
    if is_fault(deed[0]):
        return (state, deed[0])
    behind = state if deed[3] is None else put_word_in(state, task, deed[3][0], deed[3][1])
    return (with_task(behind, task, {"regs": deed[1], "row": deed[2]}), deed[0])
