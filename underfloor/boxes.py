"""The kernel's boxes: letters, chains of those that wait, and the deeds on them."""

from underfloor.forms import changed_at, first_wrong, has_keys, is_between, is_list, is_words
from underfloor.plainstates import BAD, MOST_BOX, MOST_ROOM, MOST_TASK
from underfloor.words import is_word

BOX_KEYS = ("room", "places", "start", "many", "head", "tail")
PLACES = 8


def letter_places(box):
    """The places of a box's letters, the eldest's first."""
    return [(box["start"] + step) % PLACES for step in range(box["many"])]


def letters_of(box):
    return [box["places"][place] for place in letter_places(box)]


def chain_of(slots, box):
    chain = []
    task = box["head"]
    # Whoever wrote the slots, the walk ends: at nobody, or at one that was met.
    while task != 0 and slots[task] is not None and task not in chain:
        chain.append(task)
        task = slots[task]["next"]
    return chain


def box_at(boxes, number):
    return boxes[number] if is_between(number, 1, MOST_BOX) else None


def waits_at(slot):
    """The box at which a slot's task waits, or None."""
    if slot is None or slot["waits"] is None or slot["waits"][0] not in ("send", "take"):
        return None
    return slot["waits"][1]


def boxes_wrong(slots, boxes):
    if not is_list(boxes, MOST_BOX + 1) or boxes[0] is not None:
        return "boxes is no list of 16 with None as its first"
    if not all([is_chainable(slot) for slot in slots if slot is not None]):
        return "a task's word is no word, or its next is no id, and not 0"
    wrong = first_wrong([box_wrong(box) for box in boxes if box is not None])
    if wrong is not None:
        return wrong
    wrong = first_wrong([chain_wrong(slots, boxes, number) for number in range(1, MOST_BOX + 1)])
    if wrong is not None:
        return wrong
    return first_wrong([waiter_wrong(slot, boxes) for slot in slots if slot is not None])


def is_chainable(slot):
    return is_word(slot["word"]) and is_between(slot["next"], 0, MOST_TASK)


def box_wrong(box):
    if not has_keys(box, BOX_KEYS):
        return "a box is no dict with the keys of a box"
    if not is_between(box["room"], 1, MOST_ROOM) or not is_between(box["start"], 0, PLACES - 1):
        return "a box's room is none from 1 to 8, or its start none from 0 to 7"
    if not is_between(box["many"], 0, box["room"]):
        return "a box has more letters than room, or no number of them"
    if not is_list(box["places"], PLACES) or not is_words(box["places"], PLACES):
        return "a box's places are no list of 8 words"
    others = [word for place, word in enumerate(box["places"]) if place not in letter_places(box)]
    if any([word != 0 for word in others]):
        return "a box has a word where no letter is"
    if not is_between(box["head"], 0, MOST_TASK) or not is_between(box["tail"], 0, MOST_TASK):
        return "a box's head or tail is no id, and not 0"
    return None


def chain_wrong(slots, boxes, number):
    waiting = [task for task, slot in enumerate(slots) if waits_at(slot) == number]
    box = boxes[number]
    if box is None:
        return None if len(waiting) == 0 else "a task waits at a box that isn't there"
    chain = chain_of(slots, box)
    if sorted(chain) != waiting:
        return "a box's chain hasn't just those that wait at it"
    if len(chain) == 0:
        return None if box["head"] == 0 and box["tail"] == 0 else "a box has a head or a tail without a chain"
    if chain[-1] != box["tail"] or slots[chain[-1]]["next"] != 0:
        return "a box's chain doesn't end at its tail"
    return None


def waiter_wrong(slot, boxes):
    number = waits_at(slot)
    if number is None:
        return None if slot["next"] == 0 and slot["word"] == 0 else "who doesn't wait at a box has a next or a word"
    box = boxes[number]
    if slot["waits"][0] == "send":
        return None if box["many"] == box["room"] else "a sender waits where there is room"
    return None if box["many"] == 0 and slot["word"] == 0 else "a taker waits where a letter is, or has a word"


def box_made(boxes, room):
    free = [number for number in range(1, MOST_BOX + 1) if boxes[number] is None]
    if len(free) == 0:
        return (list(boxes), None)
    new = {"room": room, "places": [0] * PLACES, "start": 0, "many": 0, "head": 0, "tail": 0}
    return (boxes[:free[0]] + [new] + boxes[free[0] + 1:], free[0])


def with_letter(boxes, number, word):
    box = boxes[number]
    places = list(box["places"])
    places[(box["start"] + box["many"]) % PLACES] = word
    return changed_at(boxes, number, {"places": places, "many": box["many"] + 1})


def without_letter(boxes, number):
    box = boxes[number]
    places = list(box["places"])
    places[box["start"]] = 0
    return changed_at(boxes, number, {"places": places, "start": (box["start"] + 1) % PLACES, "many": box["many"] - 1})


def chained(slots, boxes, task, number, way, word):
    """Slots and boxes in which the task waits at the tail of the box's chain."""
    tail = boxes[number]["tail"]
    behind = changed_at(slots, task, {"waits": (way, number), "word": word, "next": 0})
    if tail == 0:
        return (behind, changed_at(boxes, number, {"head": task, "tail": task}))
    return (changed_at(behind, tail, {"next": task}), changed_at(boxes, number, {"tail": task}))


def freed(slots, task):
    return changed_at(slots, task, {"waits": None, "word": 0, "next": 0})


def unchained(slots, boxes, task):
    """Slots and boxes in which the task waits at its box no more, and those around it are chained."""
    number = waits_at(slots[task])
    chain = [0] + chain_of(slots, boxes[number])
    ahead = chain[chain.index(task) - 1]
    after = slots[task]["next"]
    behind = freed(slots, task)
    news = {}
    if ahead == 0:
        news["head"] = after
    else:
        behind = changed_at(behind, ahead, {"next": after})
    if after == 0:
        news["tail"] = ahead
    return (behind, changed_at(boxes, number, news))


def sent(slots, boxes, task, number, word):
    box = box_at(boxes, number)
    if box is None:
        return (list(slots), list(boxes), [(task, BAD, None)])
    head = box["head"]
    if head != 0 and slots[head]["waits"][0] == "take":
        behind = unchained(slots, boxes, head)
        return behind + ([(task, 0, None), (head, 0, word)],)
    if box["many"] < box["room"]:
        return (list(slots), with_letter(boxes, number, word), [(task, 0, None)])
    return chained(slots, boxes, task, number, "send", word) + ([],)


def taken(slots, boxes, task, number):
    box = box_at(boxes, number)
    if box is None:
        return (list(slots), list(boxes), [(task, BAD, None)])
    if box["many"] == 0:
        return chained(slots, boxes, task, number, "take", 0) + ([],)
    answers = [(task, 0, box["places"][box["start"]])]
    behind = without_letter(boxes, number)
    head = box["head"]
    if head == 0:
        return (list(slots), behind, answers)
    # With a letter there only senders wait.
    ready = unchained(slots, with_letter(behind, number, slots[head]["word"]), head)
    return ready + (answers + [(head, 0, None)],)


def shut(slots, boxes, task, number):
    box = box_at(boxes, number)
    if box is None:
        return (list(slots), list(boxes), [(task, BAD, None)])
    chain = chain_of(slots, box)
    behind = list(slots)
    for other in chain:
        behind = freed(behind, other)
    answers = [(task, 0, None)] + [(other, BAD, None) for other in chain]
    return (behind, boxes[:number] + [None] + boxes[number + 1:], answers)
