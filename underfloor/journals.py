"""The journal: changes of the floor that are done whole or not at all, wherever it is stopped."""

from underfloor.errors import NoChange
from underfloor.floors import written
from underfloor.forms import PAGE_WORDS, is_between, is_page, is_tuple
from underfloor.words import rounded

# Blocks below this one are the journal's own: the seal, and room for 13 blocks.
FIRST_BLOCK = 14
MOST_WRITINGS = 13
# The seal's words ahead of the numbers: 1, how many, their sum.
SEAL_HEAD = 3


def no_seal():
    return (0,) * PAGE_WORDS


def sealed(floor, change):
    if not is_change(floor, change):
        raise NoChange("a change is a list of 1 to 13 writings to unlike blocks from 14 on")
    copies = [(place, writing[1]) for place, writing in enumerate(change, start=1)]
    return copies + [(0, seal_of(change))] + change + [(0, no_seal())]


def is_change(floor, thing):
    if not isinstance(thing, list) or not 1 <= len(thing) <= MOST_WRITINGS:
        return False
    if not all([is_writing(floor, writing) for writing in thing]):
        return False
    return are_unlike([writing[0] for writing in thing])


def is_writing(floor, thing):
    return is_tuple(thing, 2) and is_between(thing[0], FIRST_BLOCK, len(floor) - 1) and is_page(thing[1])


def are_unlike(numbers):
    return len(set(numbers)) == len(numbers)


def sum_of(blocks):
    return rounded(sum([sum(block) for block in blocks]))


def seal_of(change):
    numbers = [writing[0] for writing in change]
    words = [1, len(change), sum_of([writing[1] for writing in change])] + numbers
    return tuple(words + [0] * (PAGE_WORDS - len(words)))


def sealed_numbers(floor):
    """Where the journal's blocks belong, or None where block 0 is no seal."""
    seal = floor[0]
    many = seal[1]
    if seal[0] != 1 or not 1 <= many <= MOST_WRITINGS:
        return None
    numbers = list(seal[SEAL_HEAD:SEAL_HEAD + many])
    behind = seal[SEAL_HEAD + many:]
    if not are_unlike(numbers) or not all([is_between(number, FIRST_BLOCK, len(floor) - 1) for number in numbers]):
        return None
    if any([word != 0 for word in behind]) or seal[2] != sum_of(floor[1:1 + many]):
        return None
    return numbers


def coming_up(floor):
    numbers = sealed_numbers(floor)
    if numbers is None:
        return [(0, no_seal())]
    return [(number, floor[place]) for place, number in enumerate(numbers, start=1)] + [(0, no_seal())]


def come_up(floor):
    return written(floor, coming_up(floor))
