"""The floor's map: which blocks are used, and where the root is."""

from underfloor.forms import PAGE_WORDS
from underfloor.journals import FIRST_BLOCK


def map_blocks(many):
    return (many + PAGE_WORDS - 1) // PAGE_WORDS


def root_of(floor):
    return FIRST_BLOCK + map_blocks(len(floor))


def map_words(floor):
    words = []
    for block in floor[FIRST_BLOCK:root_of(floor)]:
        words.extend(list(block))
    return words


def used(floor):
    return map_words(floor)[:len(floor)]


def free_blocks(floor):
    return [number for number, mark in enumerate(used(floor)) if mark == 0]


def with_used(floor, marks):
    """A floor whose map tells these marks, block by block."""
    behind = list(floor)
    words = marks + [0] * (PAGE_WORDS * map_blocks(len(floor)) - len(marks))
    for place in range(map_blocks(len(floor))):
        behind[FIRST_BLOCK + place] = tuple(words[PAGE_WORDS * place:PAGE_WORDS * (place + 1)])
    return behind
