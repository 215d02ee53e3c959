"""Tyings: the checker that holds one against a kernel and a plain state, and a tying carried on."""

from underfloor.boxes import chain_of, letters_of
from underfloor.forms import first_wrong, least_free
from underfloor.frames import entry_of
from underfloor.kernels import kernel_wrong
from underfloor.kin import there
from underfloor.maps import root_of
from underfloor.plaincalls import waiters
from underfloor.plainstates import MOST_BOX, plain_wrong
from underfloor.trees import tree_of
from underfloor.words import is_whole

# What a plain task and its slot have just the same.
ALIKE = ("parent", "rank", "regs", "row", "handler", "rung", "saved")


def tied(kernel, plain, tying):
    wrong = first_wrong([kernel_wrong(kernel), plain_wrong(plain)])
    if wrong is not None:
        return wrong
    # Nodes and heads can be held against one another only by a tying that has its form.
    for look in (tying_wrong, tasks_wrong, parts_wrong, boxes_wrong, memory_wrong, files_wrong):
        wrong = look(kernel, plain, tying)
        if wrong is not None:
            return wrong
    return None


def tying_wrong(kernel, plain, tying):
    if not isinstance(tying, dict):
        return "the tying is no dict"
    if not all([is_whole(node) and is_whole(head) for node, head in tying.items()]):
        return "the tying has something else than whole numbers"
    if sorted(tying) != sorted(plain["nodes"]):
        return "the tying hasn't just the nodes of the plain state"
    if tying[0] != root_of(kernel["floor"]):
        return "node 0 isn't tied to the root's head"
    return None if len(set(list(tying.values()))) == len(tying) else "two nodes are tied to one head"


def tasks_wrong(kernel, plain, tying):
    if there(kernel["slots"]) != sorted(plain["tasks"]):
        return "both haven't the same tasks"
    return None


def parts_wrong(kernel, plain, tying):
    for task in sorted(plain["tasks"]):
        slot = kernel["slots"][task]
        own = plain["tasks"][task]
        if not all([slot[key] == own[key] for key in ALIKE]):
            return "a task has another parent, rank, regs, row, handler, rung or saved"
        if slot_waits(own["waits"]) != (slot["waits"], slot["word"]):
            return "a task waits for something else, or has another word to send"
        if tied_parts(own["handles"], tying) != slot["handles"]:
            return "a task's handles are others, or of other nodes"
    return None


def slot_waits(waits):
    """What a slot has of a plain task's waits: its own waits, and the word to be sent."""
    if waits is None or waits[0] in ("child", "ended"):
        return (waits, 0)
    return (waits[:2], waits[2] if waits[0] == "send" else 0)


def tied_parts(parts, tying):
    """A dict to node numbers as one to the heads that they are tied to."""
    return dict([(key, tying[node]) for key, node in parts.items()])


def boxes_wrong(kernel, plain, tying):
    for number in range(1, MOST_BOX + 1):
        box = kernel["boxes"][number]
        if (box is None) != (number not in plain["boxes"]):
            return "both haven't the same boxes"
        if box is not None:
            if (box["room"], letters_of(box)) != plain["boxes"][number]:
                return "a box has another room, or other letters"
            if chain_of(kernel["slots"], box) != waiters(plain, number):
                return "a box's chain hasn't those that wait at it by since"
    return None


def memory_wrong(kernel, plain, tying):
    memory = kernel["memory"]
    if sorted(memory["lent"]) != sorted(plain["lent"]):
        return "both haven't the same lent numbers"
    if not all([memory["frames"][memory["lent"][number]] == page for number, page in plain["lent"].items()]):
        return "a lent page has other words"
    for task in sorted(memory["tables"]):
        pages = plain["tasks"][task]["pages"]
        if sorted(memory["tables"][task]) != sorted(pages):
            return "a task has other pages"
        if not all([is_same_page(memory, entry_of(memory, task, page), pages[page]) for page in pages]):
            return "a task's page is another one"
    return None


def is_same_page(memory, entry, told):
    if told[0] == "lent":
        return entry == (memory["lent"][told[1]], "lent")
    return entry[1] != "lent" and memory["frames"][entry[0]] == told[1]


def files_wrong(kernel, plain, tying):
    tree = tree_of(kernel["floor"])
    if sorted(tree) != sorted(tying.values()):
        return "the floor's tree hasn't just the tied heads"
    for number, node in plain["nodes"].items():
        wanted = node if node[0] == "file" else ("folder", tied_parts(node[1], tying))
        if tree[tying[number]] != wanted:
            return "a node is of another kind, or has other names or words"
    return None


def carried(tying, came):
    if came is None:
        return dict(tying)
    if came[0] == "dropped":
        return dict([(node, head) for node, head in tying.items() if head != came[1]])
    behind = dict(tying)
    behind[least_free(tying, 0, len(tying))] = came[1]
    return behind
