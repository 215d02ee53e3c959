"""Forms of plain data: what the checkers of states ask of anything, and copies with something changed."""

from underfloor.words import is_whole, is_word

PAGE_WORDS = 16
MOST_PAGE = 4095


def is_between(thing, low, high):
    return is_whole(thing) and low <= thing <= high


def is_page(thing):
    return is_tuple(thing, PAGE_WORDS) and all([is_word(word) for word in thing])


def is_tuple(thing, many):
    return isinstance(thing, tuple) and len(thing) == many


def is_list(thing, many):
    return isinstance(thing, list) and len(thing) == many


def is_words(thing, most):
    return isinstance(thing, list) and len(thing) <= most and all([is_word(word) for word in thing])


def has_keys(thing, keys):
    return isinstance(thing, dict) and len(thing) == len(keys) and all([key in thing for key in keys])


def has_numbers(thing, low, high):
    """Whether it is a dict, all of whose keys are whole numbers within these bounds."""
    return isinstance(thing, dict) and all([is_between(key, low, high) for key in thing])


def first_wrong(texts):
    """The first text of a list of texts and Nones, or None."""
    for text in texts:
        if text is not None:
            return text
    return None


def has_ring(parents):
    """Whether some id of a dict from ids to parents' ids (0: none) is its own elder."""
    for task in parents:
        elder = parents[task]
        steps = 0
        while elder != 0 and steps < len(parents):
            elder = parents[elder]
            steps = steps + 1
        if elder != 0:
            return True
    return False


def changed(old, news):
    new = dict(old)
    new.update(news)
    return new


def changed_at(rows, place, news):
    """A copy of a list of dicts, with the one at this place changed."""
    new = list(rows)
    new[place] = changed(rows[place], news)
    return new


def put_at(row, place, part):
    """A copy of a tuple, with this part at this place."""
    return row[:place] + (part,) + row[place + 1:]


def least_free(taken, low, high):
    """The least number within these bounds that is no key of a dict, or None."""
    for number in range(low, high + 1):
        if number not in taken:
            return number
    return None


def answered_regs(regs, answer, second):
    new = list(regs)
    new[0] = answer
    if second is not None:
        new[1] = second
    return new
