"""Pairs that are stopped amid a step, and come up."""

from underfloor.changes import differences
from underfloor.errors import NoNumber
from underfloor.floors import stopped
from underfloor.forms import changed, is_between
from underfloor.journals import FIRST_BLOCK, come_up, sealed
from underfloor.kernels import refuse_unready
from underfloor.pairs import bare_kernel, pair_step
from underfloor.plainstates import new_plain
from underfloor.steps import kernel_step


def step_writings(kernel, task):
    behind = kernel_step(kernel, task)[0]
    # A step does at most one change, whose writings are just what differs behind the journal, sorted.
    change = [writing for writing in differences(kernel["floor"], behind["floor"]) if writing[0] >= FIRST_BLOCK]
    return [] if len(change) == 0 else sealed(kernel["floor"], change)


def stopped_pair(pair, task, many):
    kernel = pair[0]
    refuse_unready(kernel, task)
    writings = step_writings(kernel, task)
    if not is_between(many, 0, len(writings)):
        raise NoNumber("the step has fewer writings")
    floor = come_up(stopped(kernel["floor"], writings, many))
    left = pair if floor[FIRST_BLOCK:] == kernel["floor"][FIRST_BLOCK:] else pair_step(pair, task)[0]
    plain = changed(new_plain(), {"nodes": left[1]["nodes"]})
    return (bare_kernel(len(kernel["memory"]["frames"]), floor), plain, dict(left[2]))
