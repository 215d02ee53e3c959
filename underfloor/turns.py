"""Turns: lists of ready tasks by ranks, a fifth of those that were passed too often, and who is next."""

from underfloor.forms import is_between, is_tuple
from underfloor.plainstates import MOST_TASK

# The lists by ranks are 0 to 3.
RANKS = 4
FIFTH = 4
MOST_PASSED = 8
# A task is passed at most 8 times, and then waits at most for the others that came to 8.
BOUND = 23


def no_turns():
    return ([], [], [], [], [])


def taken_out(turns, task):
    return tuple([[pair for pair in row if pair[0] != task] for row in turns])


def made_ready(turns, task, rank):
    others = taken_out(turns, task)
    return others[:rank] + (others[rank] + [(task, 0)],) + others[rank + 1:]


def next_turn(turns):
    # The fifth list is ahead of the others, which go from the greatest rank down.
    rows = [row for row in reversed(turns) if len(row) > 0]
    if len(rows) == 0:
        return (turns, None)
    task = rows[0][0][0]
    return (passed_on(taken_out(turns, task)), task)


def passed_on(turns):
    """Turns in which each task of the four lists was passed once more."""
    rows = [[(task, passed + 1) for task, passed in row] for row in turns[:RANKS]]
    fifth = list(turns[FIFTH])
    for row in reversed(rows):
        fifth.extend([pair for pair in row if pair[1] == MOST_PASSED])
    short = [[pair for pair in row if pair[1] < MOST_PASSED] for row in rows]
    return tuple(short + [fifth])


def rows_of(rank):
    return 4 * (rank + 1)


def standing(turns, task):
    for number, row in enumerate(turns):
        for place, pair in enumerate(row):
            if pair[0] == task:
                return (number, place, pair[1])
    return None


def turns_wrong(thing):
    """None, or a text that says why anything is no turns."""
    if not is_tuple(thing, RANKS + 1) or not all([isinstance(row, list) for row in thing]):
        return "turns is no tuple of five lists"
    met = []
    for number, row in enumerate(thing):
        if not all([is_standing(pair, number) for pair in row]):
            return "a list of turns has something else than tasks with how often they were passed"
        met.extend([pair[0] for pair in row])
    return None if len(set(met)) == len(met) else "a task stands twice in the turns"


def is_standing(thing, number):
    if not is_tuple(thing, 2) or not is_between(thing[0], 1, MOST_TASK):
        return False
    if number == FIFTH:
        return is_between(thing[1], MOST_PASSED, MOST_PASSED)
    return is_between(thing[1], 0, MOST_PASSED - 1)
