"""Rows of code: what they are, how one word writes them, what those that reckon do."""

from underfloor.errors import NoCode
from underfloor.words import is_whole, is_word, rounded

# A row's word is written by its place here.
NAMES = (
    "put", "high", "copy", "add", "less", "times", "cut", "rest",
    "under", "same", "load", "store", "jump", "if", "call",
)

# What stands behind a row's word, in order: registers a, b, c, and a number n.
SHAPES = {
    "put": "an", "high": "an", "copy": "ab",
    "add": "abc", "less": "abc", "times": "abc", "cut": "abc",
    "rest": "abc", "under": "abc", "same": "abc",
    "load": "abn", "store": "abn", "jump": "n", "if": "an", "call": "",
}


def shape_of(name):
    return SHAPES.get(name)


def bound_of(field):
    return 2 ** 16 if field == "n" else 8


def is_part(field, thing):
    return is_whole(thing) and 0 <= thing < bound_of(field)


def is_row(thing):
    # A list in the place of the word could not be looked up at all.
    if not isinstance(thing, tuple) or len(thing) == 0 or not isinstance(thing[0], str):
        return False
    shape = shape_of(thing[0])
    if shape is None or len(thing) != 1 + len(shape):
        return False
    return all([is_part(field, part) for field, part in zip(shape, thing[1:])])


def part_of(row, field):
    place = shape_of(row[0]).find(field)
    return 0 if place < 0 else row[1 + place]


def coded(row):
    if not is_row(row):
        raise NoCode("this is no row of code")
    word = NAMES.index(row[0]) * 2 ** 25
    word = word + part_of(row, "a") * 2 ** 22 + part_of(row, "b") * 2 ** 19
    return word + part_of(row, "c") * 2 ** 16 + part_of(row, "n")


def part_in(word, field):
    if field == "a":
        return word // 2 ** 22 % 8
    if field == "b":
        return word // 2 ** 19 % 8
    if field == "c":
        return word // 2 ** 16 % 8
    return word % 2 ** 16


def decoded(word):
    if not is_word(word) or word // 2 ** 25 >= len(NAMES):
        return None
    name = NAMES[word // 2 ** 25]
    row = tuple([name] + [part_in(word, field) for field in shape_of(name)])
    # Where the word has something that the row has no part for, the row writes another word.
    return row if coded(row) == word else None


def reckoned(row, regs):
    name = row[0]
    if name == "put":
        return rounded(row[2])
    if name == "high":
        return rounded(row[2] * 2 ** 16 + regs[row[1]] % 2 ** 16)
    if name == "copy":
        return rounded(regs[row[2]])
    return reckoned_of_two(name, regs[row[2]], regs[row[3]])


def reckoned_of_two(name, left, right):
    if name == "add":
        return rounded(left + right)
    if name == "less":
        return rounded(left - right)
    if name == "times":
        return rounded(left * right)
    if name == "under":
        return 1 if left < right else 0
    if name == "same":
        return 1 if left == right else 0
    return cut_or_rest(name, left, right)


def cut_or_rest(name, left, right):
    if right == 0:
        return None
    return left // right if name == "cut" else left % right
