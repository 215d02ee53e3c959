"""The floor: blocks, writings, and stops between them."""

from underfloor.forms import is_page

LEAST_BLOCKS = 32
MOST_BLOCKS = 200


def is_floor(thing):
    if not isinstance(thing, list) or not LEAST_BLOCKS <= len(thing) <= MOST_BLOCKS:
        return False
    return all([is_page(block) for block in thing])


def written(floor, writings):
    behind = list(floor)
    for number, block in writings:
        behind[number] = block
    return behind


def stopped(floor, writings, many):
    # A slice by a number below 0 would leave off the last ones.
    return written(floor, writings[:max(many, 0)])
