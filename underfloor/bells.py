"""The kernel's bells: tasks rung, handlers entered and left."""

from underfloor.boxes import freed, unchained, waits_at
from underfloor.forms import changed_at, is_between
from underfloor.plainstates import BAD, BELL, MOST_TASK, has_ended


def is_living(slots, thing):
    """Whether anything is the id of a task that is there and hasn't ended."""
    return is_between(thing, 1, MOST_TASK) and slots[thing] is not None and not has_ended(slots[thing]["waits"])


def rung(slots, boxes, task, other):
    if not is_living(slots, other):
        return (list(slots), list(boxes), callers(task, BAD))
    behind = changed_at(slots, other, {"rung": True})
    slot = slots[other]
    if slot["waits"] is None or slot["handler"] == 0 or slot["saved"] is not None:
        return (behind, list(boxes), callers(task, 0))
    answers = callers(task, 0) + [(other, BELL, None)]
    if waits_at(slot) is None:
        return (freed(behind, other), list(boxes), answers)
    return unchained(behind, boxes, other) + (answers,)


def callers(task, answer):
    # Nobody, task 0, has no answer.
    return [] if task == 0 else [(task, answer, None)]


def entered(slots, task):
    slot = slots[task]
    if slot["waits"] is not None or not slot["rung"] or slot["handler"] == 0 or slot["saved"] is not None:
        return list(slots)
    news = {"saved": (slot["regs"], slot["row"]), "rung": False, "row": slot["handler"]}
    return changed_at(slots, task, news)


def left(slots, task):
    saved = slots[task]["saved"]
    if saved is None:
        return None
    return changed_at(slots, task, {"regs": saved[0], "row": saved[1], "saved": None})
