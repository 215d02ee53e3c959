"""Floors for the tests, written by hand or laid at random."""

NOUGHTS = (0,) * 16
TOP = 2 ** 32 - 1


def padded(*words):
    return tuple(words) + (0,) * (16 - len(words))


def cells_of(node):
    if node[0] == "file":
        return list(node[1])
    return [word for name in sorted(node[1]) for word in (name, node[1][name])]


def blocks_wanted(node):
    return -(-len(cells_of(node)) // 16)


def root_at(many):
    return 14 + -(-many // 16)


def floor_from(many, tree, blocks, junk=None):
    """A floor with this tree, a dict from heads, each node's blocks at these numbers; junk tells of all other blocks."""
    root = root_at(many)
    floor = [NOUGHTS] * many if junk is None else [junk(number) for number in range(many)]
    floor[0] = NOUGHTS
    marks = [1 if number <= root else 0 for number in range(many)] + [0] * (16 * (root - 14) - many)
    for head, node in tree.items():
        numbers = blocks.get(head, [])
        cells = cells_of(node)
        assert len(numbers) == blocks_wanted(node)
        floor[head] = padded(1 if node[0] == "file" else 2, len(node[1]), *numbers)
        for place, number in enumerate(numbers):
            floor[number] = padded(*cells[16 * place:16 * place + 16])
            marks[number] = 1
        marks[head] = 1
    for place in range(root - 14):
        floor[14 + place] = tuple(marks[16 * place:16 * place + 16])
    return floor


def scattered(chance, many, nodes):
    """A floor with the nodes of a plain state, their blocks anywhere, and the tying of nodes to heads."""
    free = list(range(root_at(many) + 1, many))
    chance.shuffle(free)
    tying = {0: root_at(many)}
    for number in nodes:
        if number != 0:
            tying[number] = free.pop()
    blocks = {tying[number]: [free.pop() for block in range(blocks_wanted(nodes[number]))] for number in nodes}
    tree = {tying[number]: with_heads(node, tying) for number, node in nodes.items()}
    junk = lambda number: tuple(chance.choice((0, 1, 2, TOP, number)) for place in range(16))
    return floor_from(many, tree, blocks, junk), tying


def with_heads(node, tying):
    if node[0] == "file":
        return node
    return ("folder", {name: tying[inner] for name, inner in node[1].items()})


def room_for(nodes):
    """How many blocks the nodes want, heads and all, but for the root's head."""
    return sum(1 + blocks_wanted(node) for node in nodes.values()) - 1


def small_tree():
    """Heads anywhere on a floor of 40 blocks: root 17 with a file, a folder with a folder and an empty file."""
    tree = {
        17: ("folder", {5: 39, TOP: 20, 1: 30}), 39: ("file", list(range(100, 117))), 20: ("folder", {7: 25, 8: 18}),
        25: ("folder", {}), 18: ("file", []), 30: ("file", [0]),
    }
    return tree, {17: [22], 39: [36, 19], 20: [38], 30: [33]}


def small_floor(junk=None):
    return floor_from(40, *small_tree(), junk)


def wide_tree():
    """On 200 blocks: files of 1, 16, 17, 63 and 64 words, folders of 8, 9 and 32 names."""
    tree = {27: ("folder", {1: 50, 2: 60, 3: 70})}
    blocks = {27: [199]}
    free = iter(list(range(71, 199)))
    for head, many in ((50, 8), (60, 9), (70, 32)):
        names = {}
        for place in range(many):
            inner = next(free)
            names[1000 - 7 * place] = inner
            size = (1, 16, 17, 63, 64)[place % 5] if head == 50 else 0
            tree[inner] = ("file", [inner + word for word in range(size)])
            blocks[inner] = []
        tree[head] = ("folder", names)
        blocks[head] = []
    for head in sorted(tree, reverse=True):
        blocks[head] = blocks[head] or [next(free) for block in range(blocks_wanted(tree[head]))]
    return tree, blocks


def wide_floor():
    return floor_from(200, *wide_tree(), lambda number: (number, TOP) * 8)
