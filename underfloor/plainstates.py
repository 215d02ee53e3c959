"""Plain states: the told answers, what a plain state is, and copies of one with something changed."""

from underfloor.forms import answered_regs, changed, first_wrong, has_keys, has_numbers, has_ring, is_between, is_list
from underfloor.forms import MOST_PAGE, is_page, is_tuple, is_words
from underfloor.words import is_whole, is_word

BAD = 4294967295
LACK = 4294967294
HELD = 4294967293
NONE = 4294967292
BELL = 4294967291

STATE_KEYS = ("tasks", "lent", "nodes", "boxes", "clock")
TASK_KEYS = (
    "parent", "rank", "regs", "row", "pages", "handles", "waits", "handler", "rung", "saved",
)
MOST_TASK = 15
MOST_BOX = 15
MOST_HANDLE = 7
MOST_NODE = 39
MOST_NAMES = 32
MOST_WORDS = 64
MOST_ROOM = 8


def new_plain():
    return {"tasks": {}, "lent": {}, "nodes": {0: ("folder", {})}, "boxes": {}, "clock": 0}


def is_ready(state, task):
    # True would be found where 1 is a key.
    return is_whole(task) and task in state["tasks"] and state["tasks"][task]["waits"] is None


def has_ended(waits):
    return waits is not None and waits[0] == "ended"


def with_task(state, task, news):
    tasks = dict(state["tasks"])
    tasks[task] = changed(tasks[task], news)
    return changed(state, {"tasks": tasks})


def without_task(state, task):
    tasks = dict(state["tasks"])
    tasks.pop(task)
    return changed(state, {"tasks": tasks})


def answered(state, task, answer, second=None):
    """A state in which the task has this answer and is ready."""
    regs = answered_regs(state["tasks"][task]["regs"], answer, second)
    return with_task(state, task, {"regs": regs, "waits": None})


def tasks_in(state):
    """The tasks by rising ids, so that what is told hangs on no order of keys."""
    return [state["tasks"][task] for task in sorted(state["tasks"])]


def plain_wrong(thing):
    if not has_keys(thing, STATE_KEYS):
        return "this is no dict with the keys of a plain state"
    # The ties can be looked at only where all parts have their forms.
    for look in (clock_wrong, tasks_wrong, lent_wrong, nodes_wrong, boxes_wrong, ties_wrong):
        wrong = look(thing)
        if wrong is not None:
            return wrong
    return None


def clock_wrong(state):
    clock = state["clock"]
    return None if is_whole(clock) and clock >= 0 else "the clock is no whole number from 0 on"


def tasks_wrong(state):
    if not has_numbers(state["tasks"], 1, MOST_TASK):
        return "tasks is no dict from ids"
    return first_wrong([task_wrong(task, state["clock"]) for task in tasks_in(state)])


def task_wrong(task, clock):
    if not has_keys(task, TASK_KEYS):
        return "a task is no dict with the keys of a task"
    wrong = common_wrong(task)
    if wrong is not None:
        return wrong
    if not all([is_between(node, 0, MOST_NODE) for node in task["handles"].values()]):
        return "a handle is of no node number"
    if not has_numbers(task["pages"], 0, MOST_PAGE):
        return "a task's pages are no dict from page numbers"
    if not all([is_entry(entry) for entry in task["pages"].values()]):
        return "a task's page is neither an own nor a lent one"
    return None if is_waits(task["waits"], clock) else "a task's waits is none of the told ones"


def common_wrong(task):
    """What is wrong with what plain tasks and the kernel's slots both have."""
    if not is_between(task["parent"], 0, MOST_TASK):
        return "a task's parent is no id, and not 0"
    if not is_between(task["rank"], 0, 3):
        return "a task's rank is none from 0 to 3"
    if not is_regs(task["regs"]):
        return "a task's regs are no list of 8 words"
    if not is_word(task["row"]):
        return "a task's row is no word"
    if not is_word(task["handler"]):
        return "a task's handler is no word"
    if not isinstance(task["rung"], bool):
        return "a task's rung is no truth"
    if not is_saved(task["saved"]):
        return "a task's saved is neither None nor regs and a row"
    return None if has_numbers(task["handles"], 1, MOST_HANDLE) else "handles are no dict from 1 to 7"


def is_regs(thing):
    return is_list(thing, 8) and is_words(thing, 8)


def is_saved(thing):
    return thing is None or (is_tuple(thing, 2) and is_regs(thing[0]) and is_word(thing[1]))


def is_entry(thing):
    if not is_tuple(thing, 2):
        return False
    if thing[0] == "own":
        return is_page(thing[1])
    return thing[0] == "lent" and is_whole(thing[1]) and thing[1] >= 1


def is_waits(thing, clock):
    if thing is None:
        return True
    if not isinstance(thing, tuple) or len(thing) == 0:
        return False
    if thing[0] == "child":
        return len(thing) == 1
    if thing[0] == "ended":
        return len(thing) == 2 and is_word(thing[1])
    if thing[0] == "take":
        return len(thing) == 3 and is_between(thing[1], 1, MOST_BOX) and is_between(thing[2], 0, clock - 1)
    if thing[0] != "send" or len(thing) != 4 or not is_word(thing[2]):
        return False
    return is_between(thing[1], 1, MOST_BOX) and is_between(thing[3], 0, clock - 1)


def lent_wrong(state):
    lent = state["lent"]
    if not isinstance(lent, dict) or not all([is_whole(number) and number >= 1 for number in lent]):
        return "lent is no dict from numbers from 1 on"
    return None if all([is_page(page) for page in lent.values()]) else "a lent page is no page"


def nodes_wrong(state):
    nodes = state["nodes"]
    if not has_numbers(nodes, 0, MOST_NODE):
        return "nodes is no dict from numbers from 0 to 39"
    if not all([is_node(node) for node in nodes.values()]):
        return "a node is neither a folder nor a file"
    if 0 not in nodes or nodes[0][0] != "folder":
        return "node 0 is no folder"
    return tree_wrong(nodes)


def is_node(thing):
    if not is_tuple(thing, 2):
        return False
    if thing[0] == "file":
        return is_words(thing[1], MOST_WORDS)
    return thing[0] == "folder" and is_names(thing[1])


def is_names(thing):
    if not isinstance(thing, dict) or len(thing) > MOST_NAMES:
        return False
    if not all([is_word(name) and name >= 1 for name in thing]):
        return False
    return all([is_between(node, 0, MOST_NODE) for node in thing.values()])


def tree_wrong(nodes):
    stands = {}
    for number in sorted(nodes):
        for inner in named_nodes(nodes[number]):
            if inner == 0 or inner not in nodes:
                return "a name leads to no node that can stand by one"
            if inner in stands:
                return "a node stands by two names"
            stands[inner] = True
    # By now no node has two names, so the walk from the root meets none twice.
    below = walked_from_root(nodes)
    return None if 1 + len(below) == len(nodes) else "a node isn't come to from the root"


def named_nodes(node):
    return [node[1][name] for name in sorted(node[1])] if node[0] == "folder" else []


def walked_from_root(nodes):
    met = []
    layer = named_nodes(nodes[0])
    while len(layer) > 0:
        met.extend(layer)
        deeper = []
        for number in layer:
            deeper.extend(named_nodes(nodes[number]))
        layer = deeper
    return met


def boxes_wrong(state):
    boxes = state["boxes"]
    if not has_numbers(boxes, 1, MOST_BOX):
        return "boxes is no dict from numbers from 1 to 15"
    return None if all([is_box(box) for box in boxes.values()]) else "a box is no room with letters"


def is_box(thing):
    return is_tuple(thing, 2) and is_between(thing[0], 1, MOST_ROOM) and is_words(thing[1], thing[0])


def ties_wrong(state):
    looks = (handles_wrong, holding_wrong, waiting_wrong, ended_wrong, kin_wrong)
    return first_wrong([look(state) for look in looks])


def handles_wrong(state):
    for task in tasks_in(state):
        if not all([node in state["nodes"] for node in task["handles"].values()]):
            return "a handle's node isn't there"
    return None


def held_numbers(state):
    """The numbers of the lent pages that some task holds."""
    held = []
    for task in tasks_in(state):
        held.extend([entry[1] for entry in task["pages"].values() if entry[0] == "lent"])
    return held


def holding_wrong(state):
    held = held_numbers(state)
    if not all([number in state["lent"] for number in held]):
        return "a task holds a lent page that isn't there"
    return None if all([number in held for number in state["lent"]]) else "no task holds a lent page"


def waiting_wrong(state):
    met = {}
    for task in tasks_in(state):
        waits = task["waits"]
        if waits is not None and waits[0] in ("send", "take"):
            if not may_wait(state["boxes"], waits):
                return "a task waits at a box where it can't"
            if waits[-1] in met:
                return "two wait since one time"
            met[waits[-1]] = True
    return None


def may_wait(boxes, waits):
    if waits[1] not in boxes:
        return False
    box = boxes[waits[1]]
    return len(box[1]) == (box[0] if waits[0] == "send" else 0)


def ended_wrong(state):
    for task in tasks_in(state):
        if has_ended(task["waits"]):
            if len(task["handles"]) > 0 or len(task["pages"]) > 0:
                return "a task that ended has handles or pages"
            if task["rung"] or task["saved"] is not None or task["parent"] == 0:
                return "a task that ended is rung, in its handler, or without a parent"
    return None


def kin_wrong(state):
    tasks = state["tasks"]
    parents = dict([(task, tasks[task]["parent"]) for task in tasks])
    for parent in parents.values():
        if parent != 0 and (parent not in tasks or has_ended(tasks[parent]["waits"])):
            return "a task's parent isn't there, or has ended"
    for task in tasks:
        waits = [tasks[child]["waits"] for child in tasks if parents[child] == task]
        if tasks[task]["waits"] == ("child",) and (len(waits) == 0 or any([has_ended(wait) for wait in waits])):
            return "a task waits for children without one, or with one that ended"
    return "a task is its own elder" if has_ring(parents) else None
