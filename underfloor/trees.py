"""Files on the floor: heads, the tree from the root on, and where a floor is good."""

from underfloor.floors import is_floor
from underfloor.forms import PAGE_WORDS
from underfloor.journals import no_seal
from underfloor.maps import map_words, root_of, with_used

FILE = 1
FOLDER = 2
MOST_FILE_WORDS = 64
MOST_FOLDER_NAMES = 32
# A head's words ahead of the numbers of its blocks: kind, many.
HEAD_WORDS = 2


def padded(words):
    return tuple(words + [0] * (PAGE_WORDS - len(words)))


def new_floor(many):
    floor = [padded([])] * many
    root = root_of(floor)
    floor[root] = padded([FOLDER])
    return with_used(floor, [1 if number <= root else 0 for number in range(many)])


def kind_of(floor, head):
    return floor[head][0]


def size_of(floor, head):
    return floor[head][1]


def cells_wanted(kind, many):
    """How many words of blocks a node has: a name stands beside its head."""
    return 2 * many if kind == FOLDER else many


def blocks_wanted(cells):
    return (cells + PAGE_WORDS - 1) // PAGE_WORDS


def many_cells(floor, head):
    return cells_wanted(kind_of(floor, head), size_of(floor, head))


def blocks_of(floor, head):
    return list(floor[head][HEAD_WORDS:HEAD_WORDS + blocks_wanted(many_cells(floor, head))])


def block_words(floor, head):
    """All words of a node's blocks, with the noughts behind the last one."""
    words = []
    for number in blocks_of(floor, head):
        words.extend(list(floor[number]))
    return words


def cells_of(floor, head):
    return block_words(floor, head)[:many_cells(floor, head)]


def pairs_of(floor, head):
    """The names of a folder, rising, each with its head; of a file none."""
    if kind_of(floor, head) != FOLDER:
        return []
    cells = cells_of(floor, head)
    return list(zip(cells[0::2], cells[1::2]))


def named(floor, folder, name):
    return dict(pairs_of(floor, folder)).get(name)


def word_at(floor, head, place):
    cells = cells_of(floor, head)
    return cells[place] if 0 <= place < len(cells) else None


def nth_name(floor, head, place):
    pairs = pairs_of(floor, head)
    return pairs[place][0] if 0 <= place < len(pairs) else None


def node_at(floor, head):
    if kind_of(floor, head) == FOLDER:
        return ("folder", dict(pairs_of(floor, head)))
    return ("file", cells_of(floor, head))


def tree_of(floor):
    tree = {}
    todo = [root_of(floor)]
    while len(todo) > 0:
        head = todo.pop()
        tree[head] = node_at(floor, head)
        todo.extend([inner for name, inner in pairs_of(floor, head)])
    return tree


def floor_wrong(thing):
    if not is_floor(thing):
        return "this is no floor"
    if thing[0] != no_seal():
        return "block 0 isn't the seal of noughts"
    root = root_of(thing)
    if kind_of(thing, root) != FOLDER:
        return "the root is no folder"
    taken = dict([(number, True) for number in range(root)])
    todo = [root]
    while len(todo) > 0:
        head = todo.pop()
        wrong = node_wrong(thing, head, taken)
        if wrong is not None:
            return wrong
        taken.update(dict([(number, True) for number in [head] + blocks_of(thing, head)]))
        todo.extend([inner for name, inner in pairs_of(thing, head)])
    return map_wrong(thing, taken)


def node_wrong(floor, head, taken):
    """What is wrong with the node by this head, taken being what other blocks are."""
    if not are_blocks(floor, [head], taken):
        return "a head is no block, or a block that is something else"
    if not is_head(floor[head]):
        return "a head is none of a file or a folder"
    if not are_blocks(floor, [head] + blocks_of(floor, head), taken):
        return "a node's block is none, or one that is something else"
    if any([word != 0 for word in block_words(floor, head)[many_cells(floor, head):]]):
        return "something stands where noughts are told"
    names = [0] + [name for name, inner in pairs_of(floor, head)]
    if any([name >= after for name, after in zip(names, names[1:])]):
        return "a folder's names don't rise from 1 on"
    return None


def are_blocks(floor, numbers, taken):
    """Whether these are unlike blocks of the floor, none of them taken."""
    if len(set(numbers)) != len(numbers):
        return False
    return all([number < len(floor) and number not in taken for number in numbers])


def is_head(block):
    if block[0] == FILE:
        most = MOST_FILE_WORDS
    elif block[0] == FOLDER:
        most = MOST_FOLDER_NAMES
    else:
        return False
    if block[1] > most:
        return False
    behind = HEAD_WORDS + blocks_wanted(cells_wanted(block[0], block[1]))
    return all([word == 0 for word in block[behind:]])


def map_wrong(floor, taken):
    for number, mark in enumerate(map_words(floor)):
        if mark != (1 if number in taken else 0):
            return "the map tells of a block what isn't so"
    return None
