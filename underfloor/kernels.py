"""Kernels: where one is good, and a row of a ready task's code."""

from underfloor.boxes import boxes_wrong
from underfloor.errors import NoTask
from underfloor.forms import changed, changed_at, first_wrong, has_keys, is_between
from underfloor.frames import memory_wrong
from underfloor.kin import slots_wrong, there
from underfloor.plainrows import is_fault, row_deed
from underfloor.plainstates import MOST_TASK, has_ended
from underfloor.tables import stored, word_at
from underfloor.trees import floor_wrong, tree_of
from underfloor.turns import FIFTH, standing, turns_wrong

KERNEL_KEYS = ("memory", "slots", "boxes", "floor", "turns")


def kernel_wrong(thing):
    if not has_keys(thing, KERNEL_KEYS):
        return "this is no dict with the keys of a kernel"
    # Boxes are looked at only with slots that are good, and ties only where all parts are.
    for look in (parts_wrong, chains_wrong, ties_wrong):
        wrong = look(thing)
        if wrong is not None:
            return wrong
    return None


def parts_wrong(kernel):
    return first_wrong([
        memory_wrong(kernel["memory"]), slots_wrong(kernel["slots"]), floor_wrong(kernel["floor"]),
        turns_wrong(kernel["turns"]),
    ])


def chains_wrong(kernel):
    return boxes_wrong(kernel["slots"], kernel["boxes"])


def ties_wrong(kernel):
    slots = kernel["slots"]
    living = [task for task in there(slots) if not has_ended(slots[task]["waits"])]
    if sorted(kernel["memory"]["tables"]) != living:
        return "tables aren't there for just the tasks that have not ended"
    tree = tree_of(kernel["floor"])
    for task in living:
        if not all([head in tree for head in slots[task]["handles"].values()]):
            return "a handle is no head of the floor's tree"
    return turns_tie_wrong(slots, kernel["turns"])


def turns_tie_wrong(slots, turns):
    many = sum([len(row) for row in turns])
    ready = [task for task in there(slots) if slots[task]["waits"] is None]
    if many != len(ready):
        return "the turns haven't just the ready tasks"
    for task in ready:
        stands = standing(turns, task)
        if stands is None or stands[0] not in (slots[task]["rank"], FIFTH):
            return "a ready task doesn't stand in the list of its rank, or in the fifth"
    return None


def is_ready_task(kernel, thing):
    if not is_between(thing, 1, MOST_TASK) or kernel["slots"][thing] is None:
        return False
    return kernel["slots"][thing]["waits"] is None


def refuse_unready(kernel, task):
    if not is_ready_task(kernel, task):
        raise NoTask("this is no task that is ready")


def kernel_row(kernel, task):
    refuse_unready(kernel, task)
    slot = kernel["slots"][task]
    memory = kernel["memory"]
    deed = row_deed(slot["regs"], slot["row"], lambda address: word_at(memory, task, address))
    if is_fault(deed[0]):
        return (kernel, deed[0])
    behind = memory if deed[3] is None else stored(memory, task, deed[3][0], deed[3][1])
    slots = changed_at(kernel["slots"], task, {"regs": deed[1], "row": deed[2]})
    return (changed(kernel, {"memory": behind, "slots": slots}), deed[0])
