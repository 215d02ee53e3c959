"""The plain machine's files: nodes by handles, and the calls 11 to 20."""

from underfloor.forms import changed, least_free
from underfloor.plainstates import BAD, HELD, LACK, MOST_HANDLE, MOST_NAMES, MOST_NODE, MOST_WORDS, answered, with_task


def node_of(state, task, handle):
    return 0 if handle == 0 else state["tasks"][task]["handles"].get(handle)


def names_by(state, task, handle):
    """The names of the folder by this handle, or None where it is no handle of a folder."""
    return inner_by(state, task, handle, "folder")


def words_by(state, task, handle):
    return inner_by(state, task, handle, "file")


def inner_by(state, task, handle, kind):
    number = node_of(state, task, handle)
    if number is None or state["nodes"][number][0] != kind:
        return None
    return state["nodes"][number][1]


def with_nodes(state, news):
    return changed(state, {"nodes": changed(state["nodes"], news)})


def file_call(state, task, number, a, b, c):
    if number in (11, 12):
        return make_call(state, task, a, b, "folder" if number == 11 else "file")
    if number in (13, 14):
        return name_call(state, task, number, a, b)
    if number == 15:
        return close_call(state, task, a)
    if number == 16:
        return size_call(state, task, a)
    if number == 17:
        return nth_call(state, task, a, b)
    return words_call(state, task, number, a, b, c)


def make_call(state, task, a, b, kind):
    names = names_by(state, task, a)
    if names is None or b == 0:
        return answered(state, task, BAD)
    if b in names:
        return answered(state, task, HELD)
    node = least_free(state["nodes"], 0, MOST_NODE)
    if len(names) >= MOST_NAMES or node is None:
        return answered(state, task, LACK)
    folder = ("folder", changed(names, {b: node}))
    new = ("folder", {}) if kind == "folder" else ("file", [])
    return answered(with_nodes(state, {node_of(state, task, a): folder, node: new}), task, 0)


def name_call(state, task, number, a, b):
    names = names_by(state, task, a)
    if names is None or b not in names:
        return answered(state, task, BAD)
    if number == 13:
        return drop_call(state, task, node_of(state, task, a), b)
    return handle_call(state, task, names[b])


def drop_call(state, task, folder, name):
    names = dict(state["nodes"][folder][1])
    node = names.pop(name)
    dropped = state["nodes"][node]
    if (dropped[0] == "folder" and len(dropped[1]) > 0) or has_holder(state, node):
        return answered(state, task, HELD)
    nodes = changed(state["nodes"], {folder: ("folder", names)})
    nodes.pop(node)
    return answered(changed(state, {"nodes": nodes}), task, 0)


def has_holder(state, node):
    return any([node in list(task["handles"].values()) for task in state["tasks"].values()])


def handle_call(state, task, node):
    handles = state["tasks"][task]["handles"]
    handle = least_free(handles, 1, MOST_HANDLE)
    if handle is None:
        return answered(state, task, LACK)
    return answered(with_task(state, task, {"handles": changed(handles, {handle: node})}), task, handle)


def close_call(state, task, a):
    handles = dict(state["tasks"][task]["handles"])
    if a not in handles:
        return answered(state, task, BAD)
    handles.pop(a)
    return answered(with_task(state, task, {"handles": handles}), task, 0)


def size_call(state, task, a):
    node = node_of(state, task, a)
    if node is None:
        return answered(state, task, BAD)
    return answered(state, task, len(state["nodes"][node][1]))


def nth_call(state, task, a, b):
    names = names_by(state, task, a)
    if names is None or b >= len(names):
        return answered(state, task, BAD)
    return answered(state, task, 0, sorted(names)[b])


def words_call(state, task, number, a, b, c):
    words = words_by(state, task, a)
    if words is None or b > len(words):
        return answered(state, task, BAD)
    if number == 18:
        return answered(state, task, BAD) if b == len(words) else answered(state, task, 0, words[b])
    if number == 20:
        return with_words(state, task, a, words[:b])
    if b >= MOST_WORDS:
        return answered(state, task, BAD)
    return with_words(state, task, a, words[:b] + [c] + words[b + 1:])


def with_words(state, task, handle, words):
    return answered(with_nodes(state, {node_of(state, task, handle): ("file", words)}), task, 0)
