"""Whole numbers and words."""


def is_whole(thing):
    # Python counts True and False among its ints; here they are none.
    return isinstance(thing, int) and not isinstance(thing, bool)


def is_word(thing):
    return is_whole(thing) and 0 <= thing < 2 ** 32


def rounded(number):
    return number % 2 ** 32
