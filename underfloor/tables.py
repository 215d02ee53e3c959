"""Tasks' tables: words through them, and what pages want of frames."""

from underfloor.errors import NoRoom
from underfloor.forms import PAGE_WORDS, changed, put_at
from underfloor.frames import entry_of, free_frames, page_of, promised


def word_at(memory, task, address):
    words = page_of(memory, task, address // PAGE_WORDS)
    return None if words is None else words[address % PAGE_WORDS]


def stored(memory, task, address, word):
    page = address // PAGE_WORDS
    if entry_of(memory, task, page) is None:
        return None
    behind = owned(memory, task, page)
    frame = entry_of(behind, task, page)[0]
    return with_frame(behind, frame, put_at(behind["frames"][frame], address % PAGE_WORDS, word))


def owned(memory, task, page):
    """A memory in which a parted page of the task is its own; other pages are as they were."""
    entry = entry_of(memory, task, page)
    if entry[1] != "parted":
        return memory
    if memory["held"][entry[0]] == 1:
        return with_entry(memory, task, page, (entry[0], "own"))
    # One is free: for each entry of a parted frame but one a frame is promised.
    frame = free_frames(memory)[0]
    behind = with_held(with_held(memory, entry[0], -1), frame, 1)
    return with_entry(with_frame(behind, frame, memory["frames"][entry[0]]), task, page, (frame, "own"))


def with_frame(memory, frame, words):
    frames = list(memory["frames"])
    frames[frame] = words
    return changed(memory, {"frames": frames})


def with_held(memory, frame, more):
    held = list(memory["held"])
    held[frame] = held[frame] + more
    return changed(memory, {"held": held})


def with_table(memory, task, table):
    return changed(memory, {"tables": changed(memory["tables"], {task: table})})


def with_entry(memory, task, page, entry):
    return with_table(memory, task, changed(memory["tables"].get(task, {}), {page: entry}))


def free_beyond(memory):
    return len(free_frames(memory)) - promised(memory)


def new_page(memory, task, page):
    if free_beyond(memory) < 1:
        raise NoRoom("no frame is free beyond the promised")
    frame = free_frames(memory)[0]
    noughts = (0,) * PAGE_WORDS
    return with_entry(with_held(with_frame(memory, frame, noughts), frame, 1), task, page, (frame, "own"))


def parted_table(memory, task, child):
    table = memory["tables"].get(task, {})
    wanted = [entry for entry in table.values() if entry[1] != "lent"]
    if free_beyond(memory) < len(wanted):
        raise NoRoom("fewer frames are free beyond the promised than the task has pages that aren't lent")
    shared = dict([(page, parted_entry(entry)) for page, entry in table.items()])
    behind = with_table(with_table(memory, task, shared), child, dict(shared))
    for entry in table.values():
        behind = with_held(behind, entry[0], 1)
    return behind


def parted_entry(entry):
    return (entry[0], "parted") if entry[1] == "own" else entry


def given_up(memory, task, page):
    table = dict(memory["tables"][task])
    entry = table.pop(page)
    return with_held_lent(with_held(with_table(memory, task, table), entry[0], -1))


def with_held_lent(memory):
    """A memory without the lent numbers whose frames nobody holds."""
    lent = dict([(number, frame) for number, frame in memory["lent"].items() if memory["held"][frame] > 0])
    return changed(memory, {"lent": lent})


def lent_out(memory, task, page, number):
    behind = owned(memory, task, page)
    frame = entry_of(behind, task, page)[0]
    lending = changed(behind, {"lent": changed(behind["lent"], {number: frame})})
    return with_entry(lending, task, page, (frame, "lent"))


def held_as(memory, task, number, page):
    frame = memory["lent"][number]
    return with_entry(with_held(memory, frame, 1), task, page, (frame, "lent"))


def ended_table(memory, task):
    tables = dict(memory["tables"])
    table = tables.pop(task, {})
    behind = changed(memory, {"tables": tables})
    for entry in table.values():
        behind = with_held(behind, entry[0], -1)
    return with_held_lent(behind)
