"""Changes of files, told as changes of the floor."""

from underfloor.errors import NoChange, NoRoom
from underfloor.forms import PAGE_WORDS, is_between
from underfloor.maps import free_blocks, used, with_used
from underfloor.trees import FILE, FOLDER, MOST_FILE_WORDS, MOST_FOLDER_NAMES
from underfloor.trees import blocks_of, blocks_wanted, cells_of, kind_of, padded, pairs_of, size_of, tree_of
from underfloor.words import is_whole, is_word


def differences(floor, behind):
    """The writings that make one floor the other, sorted by their numbers."""
    numbers = [number for number in range(len(floor)) if floor[number] != behind[number]]
    return [(number, behind[number]) for number in numbers]


def remarked(floor, taken, freed):
    marks = used(floor)
    for number in taken:
        marks[number] = 1
    for number in freed:
        marks[number] = 0
    return with_used(floor, marks)


def laid(floor, head, many, cells, blocks):
    """A floor on which the node by this head has so many words or names, which lie as these cells in these blocks."""
    behind = list(floor)
    behind[head] = padded([kind_of(floor, head), many] + blocks)
    for place, number in enumerate(blocks):
        behind[number] = padded(cells[PAGE_WORDS * place:PAGE_WORDS * (place + 1)])
    return behind


def relaid(floor, head, many, cells, fresh):
    """A floor on which a node has other cells: the fresh blocks are taken, those not wanted any more are free."""
    blocks = blocks_of(floor, head) + fresh
    kept = blocks[:blocks_wanted(len(cells))]
    return remarked(laid(floor, head, many, cells, kept), fresh, blocks[len(kept):])


def refuse_no_node(floor, head, kind):
    if not is_whole(head) or head not in tree_of(floor) or kind_of(floor, head) != kind:
        raise NoChange("there is no such head of this kind")


def fresh_blocks(floor, many):
    free = free_blocks(floor)
    if len(free) < many:
        raise NoRoom("fewer blocks are free than are wanted")
    return free[:many]


def flat(pairs):
    cells = []
    for name, head in pairs:
        cells.extend([name, head])
    return cells


def made(floor, folder, name, kind):
    refuse_no_node(floor, folder, FOLDER)
    pairs = pairs_of(floor, folder)
    if not is_whole(kind) or kind not in (FILE, FOLDER):
        raise NoChange("there is no such kind")
    if not is_word(name) or name == 0 or name in dict(pairs) or len(pairs) >= MOST_FOLDER_NAMES:
        raise NoChange("the folder can't have this name")
    more = blocks_wanted(2 * len(pairs) + 2) - len(blocks_of(floor, folder))
    fresh = fresh_blocks(floor, 1 + more)
    head = fresh[0]
    cells = flat(sorted(pairs + [(name, head)]))
    behind = remarked(relaid(floor, folder, len(pairs) + 1, cells, fresh[1:]), [head], [])
    behind[head] = padded([kind])
    return (differences(floor, behind), head)


def dropped(floor, folder, name):
    refuse_no_node(floor, folder, FOLDER)
    pairs = pairs_of(floor, folder)
    if not is_word(name) or name not in dict(pairs):
        raise NoChange("the folder has no such name")
    head = dict(pairs)[name]
    if len(pairs_of(floor, head)) > 0:
        raise NoChange("a folder with names isn't dropped")
    left = [pair for pair in pairs if pair[0] != name]
    behind = relaid(floor, folder, len(left), flat(left), [])
    return differences(floor, remarked(behind, [], [head] + blocks_of(floor, head)))


def put_word(floor, head, place, word):
    refuse_no_node(floor, head, FILE)
    size = size_of(floor, head)
    if not is_between(place, 0, min(size, MOST_FILE_WORDS - 1)) or not is_word(word):
        raise NoChange("the file can't have this word at this place")
    words = cells_of(floor, head)
    cells = words[:place] + [word] + words[place + 1:]
    fresh = fresh_blocks(floor, blocks_wanted(len(cells)) - blocks_wanted(size))
    return differences(floor, relaid(floor, head, len(cells), cells, fresh))


def cut_to(floor, head, many):
    refuse_no_node(floor, head, FILE)
    if not is_between(many, 0, size_of(floor, head)):
        raise NoChange("the file can't be cut to so many words")
    return differences(floor, relaid(floor, head, many, cells_of(floor, head)[:many], []))
