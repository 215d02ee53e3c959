"""Code as texts: a program's lines read to words, and words written as lines."""

from underfloor.code import bound_of, coded, decoded, shape_of
from underfloor.errors import NoText

MOST_WORDS = 256
FIGURES = "0123456789"
LETTERS = "abcdefghijklmnopqrstuvwxyz"
REGS = ("r0", "r1", "r2", "r3", "r4", "r5", "r6", "r7")
# The rows in which a place's name may stand in the stead of the number.
NAMING = ("put", "jump", "if")


def read_code(text):
    if not isinstance(text, str):
        raise NoText(0)
    places = {}
    rows = []
    for number, line in enumerate(lines_of(text)):
        name = told_name(line)
        row = read_row(line)
        if name in places or (name is None and row is None):
            raise NoText(number)
        if name is None:
            rows.append((number, row))
        else:
            places[name] = len(rows)
    # Only now are all names known, and that each line can stand by itself.
    refuse_untold(rows, places)
    if len(rows) > MOST_WORDS:
        raise NoText(rows[MOST_WORDS][0])
    return [word_of(row, places) for number, row in rows]


def lines_of(text):
    # The text without signs has no line, not an empty one.
    return [] if text == "" else text.split("\n")


def refuse_untold(rows, places):
    for number, row in rows:
        name = name_in(row)
        if name is not None and name not in places:
            raise NoText(number)


def name_in(row):
    return row[-1] if row[0] in NAMING and isinstance(row[-1], str) else None


def word_of(row, places):
    if row[0] == "word":
        return row[1]
    name = name_in(row)
    return coded(row if name is None else row[:-1] + (places[name],))


def told_name(line):
    if line.endswith(":") and is_name(line[:-1]):
        return line[:-1]
    return None


def is_name(text):
    if not 1 <= len(text) <= 8 or not all([sign in LETTERS for sign in text]):
        return False
    return text != "word" and shape_of(text) is None


def read_row(line):
    """What a line writes: a row (a place's name may stand in it), ("word", N), or None."""
    words = line.split(" ")
    name = words[0]
    shape = "w" if name == "word" else shape_of(name)
    if shape is None or len(words) != 1 + len(shape):
        return None
    parts = [read_part(name, field, part) for field, part in zip(shape, words[1:])]
    return None if None in parts else tuple([name] + parts)


def read_part(name, field, text):
    if field == "w":
        return read_number(text, 2 ** 32)
    if field != "n":
        return REGS.index(text) if text in REGS else None
    if name in NAMING and is_name(text):
        return text
    return read_number(text, bound_of(field))


def read_number(text, bound):
    # Ten figures write every word; int refuses texts of some thousand figures.
    if not 1 <= len(text) <= 10 or not all([sign in FIGURES for sign in text]):
        return None
    if text[0] == "0" and len(text) > 1:
        return None
    number = int(text)
    return number if number < bound else None


def shown_code(words):
    return "\n".join([shown_word(word) for word in words])


def shown_word(word):
    row = decoded(word)
    if row is None:
        return f"word {word}"
    parts = [shown_part(field, part) for field, part in zip(shape_of(row[0]), row[1:])]
    return " ".join([row[0]] + parts)


def shown_part(field, part):
    return str(part) if field == "n" else f"r{part}"
