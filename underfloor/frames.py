"""The kernel's memory: frames, who holds them, tables, and where it is good."""

from underfloor.forms import MOST_PAGE, PAGE_WORDS, first_wrong, has_keys, has_numbers, is_between, is_list, is_page
from underfloor.forms import is_tuple
from underfloor.pages import MOST_LENT
from underfloor.plainstates import MOST_TASK
from underfloor.words import is_whole

MEMORY_KEYS = ("frames", "held", "tables", "lent")
WAYS = ("own", "parted", "lent")
LEAST_FRAMES = 4
MOST_FRAMES = 64


def new_memory(many):
    noughts = (0,) * PAGE_WORDS
    return {"frames": [noughts] * many, "held": [0] * many, "tables": {}, "lent": {}}


def free_frames(memory):
    return [frame for frame, many in enumerate(memory["held"]) if many == 0]


def all_entries(memory):
    """The entries of all tables: tuples (frame's number, way)."""
    entries = []
    for table in memory["tables"].values():
        entries.extend(list(table.values()))
    return entries


def promised(memory):
    # A dict from frames counts each one once, however many entries it has.
    parted = dict([entry for entry in all_entries(memory) if entry[1] == "parted"])
    return sum([memory["held"][frame] - 1 for frame in parted])


def entry_of(memory, task, page):
    return memory["tables"][task].get(page) if task in memory["tables"] else None


def page_of(memory, task, page):
    entry = entry_of(memory, task, page)
    return None if entry is None else memory["frames"][entry[0]]


def memory_wrong(thing):
    if not has_keys(thing, MEMORY_KEYS):
        return "this is no dict with the keys of a memory"
    # Who holds what can be looked at only where all parts have their forms.
    for look in (frames_wrong, tables_wrong, lent_form_wrong, holding_wrong):
        wrong = look(thing)
        if wrong is not None:
            return wrong
    return None


def frames_wrong(memory):
    frames = memory["frames"]
    if not isinstance(frames, list) or not LEAST_FRAMES <= len(frames) <= MOST_FRAMES:
        return "frames is no list of 4 to 64"
    if not all([is_page(page) for page in frames]):
        return "a frame is no page"
    if not is_list(memory["held"], len(frames)):
        return "held is no list of as many as there are frames"
    if not all([is_whole(many) and many >= 0 for many in memory["held"]]):
        return "held tells no whole number from 0 on"
    return None


def tables_wrong(memory):
    tables = memory["tables"]
    if not has_numbers(tables, 1, MOST_TASK):
        return "tables is no dict from ids"
    if not all([has_numbers(table, 0, MOST_PAGE) for table in tables.values()]):
        return "a table is no dict from page numbers"
    most = len(memory["frames"]) - 1
    good = all([is_frame_entry(entry, most) for entry in all_entries(memory)])
    return None if good else "an entry is no frame's number with a way"


def is_frame_entry(thing, most):
    return is_tuple(thing, 2) and is_between(thing[0], 0, most) and thing[1] in WAYS


def lent_form_wrong(memory):
    lent = memory["lent"]
    if not has_numbers(lent, 1, MOST_LENT):
        return "lent is no dict from numbers from 1 to 15"
    most = len(memory["frames"]) - 1
    good = all([is_between(frame, 0, most) for frame in lent.values()])
    return None if good else "lent tells no frame's number"


def holding_wrong(memory):
    ways = [[] for frame in memory["frames"]]
    for entry in all_entries(memory):
        ways[entry[0]].append(entry[1])
    told = sorted(memory["lent"].values())
    wrong = first_wrong([frame_wrong(memory, frame, ways[frame], told) for frame in range(len(ways))])
    if wrong is not None:
        return wrong
    if len(free_frames(memory)) < promised(memory):
        return "fewer frames are free than are promised"
    return None


def frame_wrong(memory, frame, ways, told):
    """What is wrong with a frame whose entries have these ways, told being all frames that lent tells."""
    if len(ways) != memory["held"][frame]:
        return "a frame is held by more or fewer than held tells"
    if ways.count("own") > 0 and len(ways) > 1:
        return "an own frame is held by another entry too"
    if any([way != ways[0] for way in ways]):
        return "a frame's entries have two ways"
    if told.count(frame) != (1 if "lent" in ways else 0):
        return "a lent frame isn't told by just one number, or one that isn't lent is told"
    return None
