"""The kernel's calls, on slots, boxes, floor, memory and turns; ends and bells from outside."""

from underfloor.bells import is_living, left, rung
from underfloor.boxes import box_made, sent, shut, taken
from underfloor.changes import cut_to, dropped, made, put_word
from underfloor.errors import NoRoom, NoTask
from underfloor.floors import written
from underfloor.forms import MOST_PAGE, answered_regs, changed, changed_at, least_free
from underfloor.frames import entry_of
from underfloor.journals import sealed
from underfloor.kernels import refuse_unready
from underfloor.kin import ended, parted, waited
from underfloor.maps import root_of
from underfloor.pages import MOST_LENT
from underfloor.plainstates import BAD, HELD, LACK, MOST_HANDLE, MOST_ROOM
from underfloor.tables import ended_table, given_up, held_as, lent_out, new_page, parted_table
from underfloor.trees import FILE, FOLDER, MOST_FILE_WORDS, MOST_FOLDER_NAMES
from underfloor.trees import kind_of, named, nth_name, size_of, tree_of, word_at
from underfloor.turns import made_ready, taken_out

MOST_HEADS = 40


def answered(kernel, news, answers):
    """A kernel with these parts, the answers in registers; who waited and has one is ready, in their order."""
    behind = changed(kernel, news)
    slots = behind["slots"]
    turns = behind["turns"]
    for task, answer, second in answers:
        slots = changed_at(slots, task, {"regs": answered_regs(slots[task]["regs"], answer, second)})
        if kernel["slots"][task]["waits"] is not None:
            turns = made_ready(turns, task, slots[task]["rank"])
    return changed(behind, {"slots": slots, "turns": turns})


def done(kernel, news, task, answer, second=None):
    """What a call tells that has an answer, lacks nothing, and makes and drops no head."""
    return (answered(kernel, news, [(task, answer, second)]), False, None)


def lacked(kernel, task):
    return (answered(kernel, {}, [(task, LACK, None)]), True, None)


def settled(kernel, news, task, answers):
    """What a call tells by which the caller may wait."""
    behind = answered(kernel, news, answers)
    if behind["slots"][task]["waits"] is None:
        return (behind, False, None)
    return (changed(behind, {"turns": taken_out(behind["turns"], task)}), False, None)


def slot_news(kernel, task, news):
    return {"slots": changed_at(kernel["slots"], task, news)}


def end_call(kernel, task, a, b, c):
    return (kernel_end(kernel, task, a), False, None)


def kernel_end(kernel, task, code):
    refuse_unready(kernel, task)
    told = ended(kernel["slots"], task, code)
    memory = ended_table(kernel["memory"], task)
    return answered(kernel, {"slots": told[0], "memory": memory, "turns": taken_out(kernel["turns"], task)}, told[1])


def part_call(kernel, task, a, b, c):
    told = parted(kernel["slots"], task)
    child = told[1]
    if child is None:
        return done(kernel, {}, task, LACK)
    try:
        memory = parted_table(kernel["memory"], task, child)
    except NoRoom:
        return lacked(kernel, task)
    turns = made_ready(kernel["turns"], child, told[0][child]["rank"])
    return done(kernel, {"slots": told[0], "memory": memory, "turns": turns}, task, child)


def wait_call(kernel, task, a, b, c):
    told = waited(kernel["slots"], task)
    return settled(kernel, {"slots": told[0]}, task, told[1])


def rank_call(kernel, task, a, b, c):
    if not 0 <= a <= 3:
        return done(kernel, {}, task, BAD)
    if a == kernel["slots"][task]["rank"]:
        return done(kernel, {}, task, 0)
    news = slot_news(kernel, task, {"rank": a})
    news["turns"] = made_ready(kernel["turns"], task, a)
    return done(kernel, news, task, 0)


def box_call(kernel, task, a, b, c):
    if not 1 <= a <= MOST_ROOM:
        return done(kernel, {}, task, BAD)
    told = box_made(kernel["boxes"], a)
    if told[1] is None:
        return done(kernel, {}, task, LACK)
    return done(kernel, {"boxes": told[0]}, task, told[1])


def boxes_told(kernel, task, told):
    """What a call tells that is a deed on boxes, told as new slots and boxes, and answers."""
    return settled(kernel, {"slots": told[0], "boxes": told[1]}, task, told[2])


def send_call(kernel, task, a, b, c):
    return boxes_told(kernel, task, sent(kernel["slots"], kernel["boxes"], task, a, b))


def take_call(kernel, task, a, b, c):
    return boxes_told(kernel, task, taken(kernel["slots"], kernel["boxes"], task, a))


def shut_call(kernel, task, a, b, c):
    return boxes_told(kernel, task, shut(kernel["slots"], kernel["boxes"], task, a))


def handler_call(kernel, task, a, b, c):
    return done(kernel, slot_news(kernel, task, {"handler": a}), task, 0)


def ring_call(kernel, task, a, b, c):
    return boxes_told(kernel, task, rung(kernel["slots"], kernel["boxes"], task, a))


def kernel_ring(kernel, task):
    if not is_living(kernel["slots"], task):
        raise NoTask("this is no task that is there and has not ended")
    told = rung(kernel["slots"], kernel["boxes"], 0, task)
    return answered(kernel, {"slots": told[0], "boxes": told[1]}, told[2])


def back_call(kernel, task, a, b, c):
    slots = left(kernel["slots"], task)
    if slots is None:
        return done(kernel, {}, task, BAD)
    return (changed(kernel, {"slots": slots}), False, None)


def head_by(kernel, task, handle, kind):
    """The head by this handle, or None where it is no handle of a node of this kind (None: of any)."""
    head = root_of(kernel["floor"]) if handle == 0 else kernel["slots"][task]["handles"].get(handle)
    if head is None or kind is None or kind_of(kernel["floor"], head) == kind:
        return head
    return None


def floor_news(kernel, change):
    """The floor behind a change; one without writings does nothing to it."""
    floor = kernel["floor"]
    return {"floor": floor if len(change) == 0 else written(floor, sealed(floor, change))}


def folder_call(kernel, task, a, b, c):
    return make_call(kernel, task, a, b, FOLDER)


def new_file_call(kernel, task, a, b, c):
    return make_call(kernel, task, a, b, FILE)


def make_call(kernel, task, a, b, kind):
    floor = kernel["floor"]
    folder = head_by(kernel, task, a, FOLDER)
    if folder is None or b == 0:
        return done(kernel, {}, task, BAD)
    if named(floor, folder, b) is not None:
        return done(kernel, {}, task, HELD)
    if size_of(floor, folder) >= MOST_FOLDER_NAMES or len(tree_of(floor)) >= MOST_HEADS:
        return done(kernel, {}, task, LACK)
    try:
        told = made(floor, folder, b, kind)
    except NoRoom:
        return lacked(kernel, task)
    behind = answered(kernel, floor_news(kernel, told[0]), [(task, 0, None)])
    return (behind, False, ("made", told[1]))


def drop_call(kernel, task, a, b, c):
    floor = kernel["floor"]
    folder = head_by(kernel, task, a, FOLDER)
    head = None if folder is None else named(floor, folder, b)
    if head is None:
        return done(kernel, {}, task, BAD)
    if (kind_of(floor, head) == FOLDER and size_of(floor, head) > 0) or has_holder(kernel, head):
        return done(kernel, {}, task, HELD)
    change = dropped(floor, folder, b)
    return (answered(kernel, floor_news(kernel, change), [(task, 0, None)]), False, ("dropped", head))


def has_holder(kernel, head):
    return any([head in list(slot["handles"].values()) for slot in kernel["slots"] if slot is not None])


def open_call(kernel, task, a, b, c):
    folder = head_by(kernel, task, a, FOLDER)
    head = None if folder is None else named(kernel["floor"], folder, b)
    if head is None:
        return done(kernel, {}, task, BAD)
    handles = kernel["slots"][task]["handles"]
    handle = least_free(handles, 1, MOST_HANDLE)
    if handle is None:
        return done(kernel, {}, task, LACK)
    return done(kernel, slot_news(kernel, task, {"handles": changed(handles, {handle: head})}), task, handle)


def close_call(kernel, task, a, b, c):
    handles = dict(kernel["slots"][task]["handles"])
    if a not in handles:
        return done(kernel, {}, task, BAD)
    handles.pop(a)
    return done(kernel, slot_news(kernel, task, {"handles": handles}), task, 0)


def size_call(kernel, task, a, b, c):
    head = head_by(kernel, task, a, None)
    return done(kernel, {}, task, BAD if head is None else size_of(kernel["floor"], head))


def nth_call(kernel, task, a, b, c):
    head = head_by(kernel, task, a, FOLDER)
    if head is None or b >= size_of(kernel["floor"], head):
        return done(kernel, {}, task, BAD)
    return done(kernel, {}, task, 0, nth_name(kernel["floor"], head, b))


def read_call(kernel, task, a, b, c):
    head = head_by(kernel, task, a, FILE)
    if head is None or b >= size_of(kernel["floor"], head):
        return done(kernel, {}, task, BAD)
    return done(kernel, {}, task, 0, word_at(kernel["floor"], head, b))


def write_call(kernel, task, a, b, c):
    head = head_by(kernel, task, a, FILE)
    if head is None or b > size_of(kernel["floor"], head) or b >= MOST_FILE_WORDS:
        return done(kernel, {}, task, BAD)
    try:
        change = put_word(kernel["floor"], head, b, c)
    except NoRoom:
        return lacked(kernel, task)
    return done(kernel, floor_news(kernel, change), task, 0)


def cut_call(kernel, task, a, b, c):
    head = head_by(kernel, task, a, FILE)
    if head is None or b > size_of(kernel["floor"], head):
        return done(kernel, {}, task, BAD)
    return done(kernel, floor_news(kernel, cut_to(kernel["floor"], head, b)), task, 0)


def is_free_page(kernel, task, page):
    return 0 <= page <= MOST_PAGE and entry_of(kernel["memory"], task, page) is None


def page_call(kernel, task, a, b, c):
    if not is_free_page(kernel, task, a):
        return done(kernel, {}, task, BAD)
    try:
        memory = new_page(kernel["memory"], task, a)
    except NoRoom:
        return lacked(kernel, task)
    return done(kernel, {"memory": memory}, task, 0)


def give_call(kernel, task, a, b, c):
    if entry_of(kernel["memory"], task, a) is None:
        return done(kernel, {}, task, BAD)
    return done(kernel, {"memory": given_up(kernel["memory"], task, a)}, task, 0)


def lend_call(kernel, task, a, b, c):
    memory = kernel["memory"]
    entry = entry_of(memory, task, a)
    if entry is None or entry[1] == "lent":
        return done(kernel, {}, task, BAD)
    number = least_free(memory["lent"], 1, MOST_LENT)
    if number is None:
        return done(kernel, {}, task, LACK)
    return done(kernel, {"memory": lent_out(memory, task, a, number)}, task, number)


def hold_call(kernel, task, a, b, c):
    if a not in kernel["memory"]["lent"] or not is_free_page(kernel, task, b):
        return done(kernel, {}, task, BAD)
    return done(kernel, {"memory": held_as(kernel["memory"], task, a, b)}, task, 0)


CALLS = {
    0: end_call, 1: part_call, 2: wait_call, 3: rank_call, 4: box_call, 5: send_call, 6: take_call, 7: shut_call,
    8: handler_call, 9: ring_call, 10: back_call, 11: folder_call, 12: new_file_call, 13: drop_call, 14: open_call,
    15: close_call, 16: size_call, 17: nth_call, 18: read_call, 19: write_call, 20: cut_call, 21: page_call,
    22: give_call, 23: lend_call, 24: hold_call,
}


def kernel_call(kernel, task, number, a, b, c):
    refuse_unready(kernel, task)
    deed = CALLS.get(number)
    if deed is None:
        return done(kernel, {}, task, BAD)
    return deed(kernel, task, a, b, c)
