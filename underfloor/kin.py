"""The kernel's tasks: slots and where they are good, children in chains, parting, ending, waiting for children."""

from underfloor.forms import changed_at, first_wrong, has_keys, has_ring, is_between, is_list
from underfloor.plainstates import MOST_BOX, MOST_TASK, NONE, common_wrong, has_ended
from underfloor.words import is_whole, is_word

SLOT_KEYS = (
    "parent", "rank", "regs", "row", "handles", "handler", "rung", "saved", "waits", "word", "next", "first", "sibling",
)


def child_chain(slots, task):
    """The children of a task, the youngest first."""
    chain = []
    child = slots[task]["first"]
    # Whoever wrote the slots, the walk ends: at nobody, or at one that was met.
    while child != 0 and slots[child] is not None and child not in chain:
        chain.append(child)
        child = slots[child]["sibling"]
    return chain


def children(slots, task):
    return sorted(child_chain(slots, task))


def there(slots):
    """The ids of the tasks that are there, rising."""
    return [task for task, slot in enumerate(slots) if slot is not None]


def slots_wrong(slots):
    if not is_list(slots, MOST_TASK + 1) or slots[0] is not None:
        return "slots is no list of 16 with None as its first"
    wrong = first_wrong([slot_wrong(slot) for slot in slots if slot is not None])
    if wrong is not None:
        return wrong
    wrong = first_wrong([parent_wrong(slots, task) for task in there(slots)])
    if wrong is not None:
        return wrong
    wrong = first_wrong([kin_wrong(slots, task) for task in there(slots)])
    if wrong is not None:
        return wrong
    parents = dict([(task, slots[task]["parent"]) for task in there(slots)])
    return "a task is its own elder" if has_ring(parents) else None


def slot_wrong(slot):
    if not has_keys(slot, SLOT_KEYS):
        return "a slot is no dict with the keys of a slot"
    wrong = common_wrong(slot)
    if wrong is not None:
        return wrong
    if not all([is_whole(head) and head >= 1 for head in slot["handles"].values()]):
        return "a handle is of no head"
    if not is_slot_waits(slot["waits"]):
        return "a slot's waits is none of the told ones"
    if not is_word(slot["word"]):
        return "a slot's word is no word"
    if not all([is_between(slot[key], 0, MOST_TASK) for key in ("next", "first", "sibling")]):
        return "a slot's next, first or sibling is no id, and not 0"
    return None


def is_slot_waits(thing):
    if thing is None:
        return True
    if not isinstance(thing, tuple) or len(thing) == 0:
        return False
    if thing[0] == "child":
        return len(thing) == 1
    if thing[0] == "ended":
        return len(thing) == 2 and is_word(thing[1])
    return thing[0] in ("send", "take") and len(thing) == 2 and is_between(thing[1], 1, MOST_BOX)


def parent_wrong(slots, task):
    slot = slots[task]
    parent = slot["parent"]
    if parent == 0 and slot["sibling"] != 0:
        return "a task without a parent has a sibling"
    if parent != 0 and (slots[parent] is None or has_ended(slots[parent]["waits"])):
        return "a task's parent isn't there, or has ended"
    if has_ended(slot["waits"]):
        if parent == 0 or len(slot["handles"]) > 0:
            return "a task that ended has no parent, or has handles"
        if slot["rung"] or slot["saved"] is not None:
            return "a task that ended is rung, or in its handler"
    return None


def kin_wrong(slots, task):
    chain = child_chain(slots, task)
    last = slots[chain[-1]]["sibling"] if len(chain) > 0 else slots[task]["first"]
    if last != 0 or sorted(chain) != [child for child in there(slots) if slots[child]["parent"] == task]:
        return "a task's chain hasn't just its children"
    if slots[task]["waits"] == ("child",) and (len(chain) == 0 or len(ended_ones(slots, chain)) > 0):
        return "a task waits for children without one, or with one that ended"
    return None


def ended_ones(slots, tasks):
    return [task for task in tasks if has_ended(slots[task]["waits"])]


def parted(slots, task):
    free = [number for number in range(1, MOST_TASK + 1) if slots[number] is None]
    if len(free) == 0:
        return (list(slots), None)
    child = free[0]
    behind = list(slots)
    behind[child] = dict(slots[task])
    news = {"parent": task, "rung": False, "first": 0, "sibling": slots[task]["first"]}
    news["regs"] = [0] + slots[task]["regs"][1:]
    return (changed_at(changed_at(behind, child, news), task, {"first": child}), child)


def without_slots(slots, gone):
    return [None if task in gone else slot for task, slot in enumerate(slots)]


def unsibled(slots, child):
    """Slots in which a child is in its parent's chain no more."""
    parent = slots[child]["parent"]
    chain = [0] + child_chain(slots, parent)
    ahead = chain[chain.index(child) - 1]
    after = slots[child]["sibling"]
    if ahead == 0:
        return changed_at(slots, parent, {"first": after})
    return changed_at(slots, ahead, {"sibling": after})


def ended(slots, task, code):
    gone = ended_ones(slots, children(slots, task))
    behind = list(slots)
    for child in children(slots, task):
        behind = changed_at(behind, child, {"parent": 0, "sibling": 0})
    news = {"handles": {}, "waits": ("ended", code), "rung": False, "saved": None, "first": 0}
    behind = changed_at(behind, task, news)
    parent = slots[task]["parent"]
    if parent == 0:
        gone = sorted(gone + [task])
        return (without_slots(behind, gone), [], gone)
    if slots[parent]["waits"] != ("child",):
        return (without_slots(behind, gone), [], gone)
    gone = sorted(gone + [task])
    behind = changed_at(unsibled(behind, task), parent, {"waits": None})
    return (without_slots(behind, gone), [(parent, task, code)], gone)


def waited(slots, task):
    brood = children(slots, task)
    gone = ended_ones(slots, brood)[:1]
    if len(gone) > 0:
        code = slots[gone[0]]["waits"][1]
        return (without_slots(unsibled(slots, gone[0]), gone), [(task, gone[0], code)], gone)
    if len(brood) == 0:
        return (list(slots), [(task, NONE, None)], [])
    return (changed_at(slots, task, {"waits": ("child",)}), [], [])
