"""The plain machine's calls: tasks, letters and bells; ends; who enters a handler."""

from underfloor.errors import NoLack
from underfloor.forms import changed, least_free
from underfloor.pages import copied_pages, given_back, memory_call
from underfloor.plainfiles import file_call
from underfloor.plainstates import BAD, BELL, LACK, MOST_BOX, MOST_ROOM, MOST_TASK, NONE
from underfloor.plainstates import answered, has_ended, is_ready, with_task, without_task

MAY_LACK = (1, 11, 12, 19, 21)


def end_call(state, task, a, b):
    return plain_end(state, task, a)


def plain_end(state, task, code):
    news = {"handles": {}, "waits": ("ended", code), "rung": False, "saved": None}
    behind = orphaned(with_task(given_back(state, task), task, news), task)
    parent = behind["tasks"][task]["parent"]
    if parent == 0:
        return without_task(behind, task)
    if behind["tasks"][parent]["waits"] == ("child",):
        return answered(without_task(behind, task), parent, task, code)
    return behind


def orphaned(state, task):
    """A state in which nobody's parent is this task: its children that ended are gone."""
    behind = state
    for child in children_of(state, task):
        if has_ended(state["tasks"][child]["waits"]):
            behind = without_task(behind, child)
        else:
            behind = with_task(behind, child, {"parent": 0})
    return behind


def children_of(state, task):
    tasks = state["tasks"]
    return sorted([child for child in tasks if tasks[child]["parent"] == task])


def part_call(state, task, a, b):
    child = least_free(state["tasks"], 1, MOST_TASK)
    if child is None:
        return answered(state, task, LACK)
    news = {"parent": task, "rung": False, "pages": copied_pages(state, task)}
    tasks = changed(state["tasks"], {child: changed(state["tasks"][task], news)})
    return answered(answered(changed(state, {"tasks": tasks}), child, 0), task, child)


def wait_call(state, task, a, b):
    children = children_of(state, task)
    gone = [child for child in children if has_ended(state["tasks"][child]["waits"])]
    if len(gone) > 0:
        code = state["tasks"][gone[0]]["waits"][1]
        return answered(without_task(state, gone[0]), task, gone[0], code)
    if len(children) == 0:
        return answered(state, task, NONE)
    return with_task(state, task, {"waits": ("child",)})


def rank_call(state, task, a, b):
    if not 0 <= a <= 3:
        return answered(state, task, BAD)
    return answered(with_task(state, task, {"rank": a}), task, 0)


def with_box(state, number, box):
    return changed(state, {"boxes": changed(state["boxes"], {number: box})})


def box_call(state, task, a, b):
    if not 1 <= a <= MOST_ROOM:
        return answered(state, task, BAD)
    number = least_free(state["boxes"], 1, MOST_BOX)
    if number is None:
        return answered(state, task, LACK)
    return answered(with_box(state, number, (a, [])), task, number)


def waiters(state, box):
    """Who waits at a box, the one that waits longest first."""
    tasks = state["tasks"]
    found = [task for task in tasks if waits_at(tasks[task]["waits"], box)]
    return sorted(found, key=lambda task: tasks[task]["waits"][-1])


def waits_at(waits, box):
    return waits is not None and waits[0] in ("send", "take") and waits[1] == box


def begun_wait(state, task, waits):
    since = state["clock"]
    return with_task(changed(state, {"clock": since + 1}), task, {"waits": waits + (since,)})


def send_call(state, task, a, b):
    if a not in state["boxes"]:
        return answered(state, task, BAD)
    room = state["boxes"][a][0]
    letters = state["boxes"][a][1]
    waiting = waiters(state, a)
    if len(waiting) > 0 and state["tasks"][waiting[0]]["waits"][0] == "take":
        return answered(answered(state, waiting[0], 0, b), task, 0)
    if len(letters) < room:
        return answered(with_box(state, a, (room, letters + [b])), task, 0)
    return begun_wait(state, task, ("send", a, b))


def take_call(state, task, a, b):
    if a not in state["boxes"]:
        return answered(state, task, BAD)
    room = state["boxes"][a][0]
    letters = state["boxes"][a][1]
    if len(letters) == 0:
        return begun_wait(state, task, ("take", a))
    behind = answered(state, task, 0, letters[0])
    # With a letter there only senders wait.
    waiting = waiters(state, a)
    if len(waiting) == 0:
        return with_box(behind, a, (room, letters[1:]))
    word = state["tasks"][waiting[0]]["waits"][2]
    return with_box(answered(behind, waiting[0], 0), a, (room, letters[1:] + [word]))


def shut_call(state, task, a, b):
    if a not in state["boxes"]:
        return answered(state, task, BAD)
    boxes = dict(state["boxes"])
    boxes.pop(a)
    behind = changed(state, {"boxes": boxes})
    for other in waiters(state, a):
        behind = answered(behind, other, BAD)
    return answered(behind, task, 0)


def handler_call(state, task, a, b):
    return answered(with_task(state, task, {"handler": a}), task, 0)


def can_be_rung(state, task):
    return task in state["tasks"] and not has_ended(state["tasks"][task]["waits"])


def ring_call(state, task, a, b):
    if not can_be_rung(state, a):
        return answered(state, task, BAD)
    return rung_plain(answered(state, task, 0), a)


def rung_plain(state, task):
    if not can_be_rung(state, task):
        return dict(state)
    behind = with_task(state, task, {"rung": True})
    other = behind["tasks"][task]
    if other["waits"] is not None and other["handler"] != 0 and other["saved"] is None:
        return answered(behind, task, BELL)
    return behind


def back_call(state, task, a, b):
    saved = state["tasks"][task]["saved"]
    if saved is None:
        return answered(state, task, BAD)
    return with_task(state, task, {"regs": saved[0], "row": saved[1], "saved": None})


def plain_bell(state, task):
    if not is_ready(state, task):
        return dict(state)
    own = state["tasks"][task]
    if not own["rung"] or own["handler"] == 0 or own["saved"] is not None:
        return dict(state)
    news = {"saved": (own["regs"], own["row"]), "rung": False, "row": own["handler"]}
    return with_task(state, task, news)


CALLS = {
    0: end_call, 1: part_call, 2: wait_call, 3: rank_call, 4: box_call, 5: send_call,
    6: take_call, 7: shut_call, 8: handler_call, 9: ring_call, 10: back_call,
}


def plain_call(state, task, number, a, b, c, lack=False):
    if lack and number not in MAY_LACK:
        raise NoLack("this call can't be told a lack")
    if lack:
        return answered(state, task, LACK)
    if 11 <= number <= 20:
        return file_call(state, task, number, a, b, c)
    if 21 <= number <= 24:
        told = memory_call(state, task, number, a, b)
        return answered(told[0], task, told[1])
    deed = CALLS.get(number)
    return answered(state, task, BAD) if deed is None else deed(state, task, a, b)
