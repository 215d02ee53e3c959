"""Plain states at random, kernels that are the same written beside them, and what is to be seen of both."""

import random

from floorworlds import blocks_wanted, root_at, scattered
from plainworlds import NOUGHTS, TOP, task
from slotworlds import box, boxes_of, slot, slots_of
from underfloor.code import coded

WORDS = (0, 1, 2, 3, 4, 5, 7, 8, 15, 16, 17, 31, 63, 64, 4095 * 16, TOP, TOP - 1, TOP - 15)


def random_row(chance):
    """Some row of code, often a call or a row on memory."""
    a, b, c = (chance.randrange(8) for part in range(3))
    number = chance.choice((0, 1, 2, 16, 17, 32, chance.randrange(64), 65535))
    name = chance.choice(("put", "high", "copy", "add", "less", "times", "cut", "rest", "under", "same", "load", "store",
                          "jump", "if", "call", "load", "store", "call"))
    if name in ("put", "high", "if"):
        return (name, a, number)
    if name in ("load", "store"):
        return (name, a, b, number)
    return {"copy": ("copy", a, b), "jump": ("jump", number), "call": ("call",)}.get(name, (name, a, b, c))


def random_page(chance):
    if chance.random() < 0.2:
        return NOUGHTS
    return tuple(coded(random_row(chance)) if chance.random() < 0.7 else chance.choice(WORDS) for place in range(16))


def random_nodes(chance):
    nodes = {0: ("folder", {})}
    numbers = [0] + chance.sample(range(1, 40), chance.choice((0, 1, 3, 6, 10, 20, 38, 39)))
    wanted = 0
    for number in numbers[1:]:
        open_ones = [other for other in nodes if nodes[other][0] == "folder" and len(nodes[other][1]) < 32]
        folder = chance.choice(open_ones[-2:] + open_ones[:1])
        names = nodes[folder][1]
        name = chance.choice([name for name in (1, 2, 3, 4, 5, TOP, number + 10) if name not in names])
        names[name] = number
        if chance.random() < 0.4 or not open_ones:
            nodes[number] = ("folder", {})
        else:
            size = chance.choice((0, 1, 2, 15, 16, 17, 32, 33, 63, 64)) if wanted < 90 else 0
            nodes[number] = ("file", [chance.choice(WORDS) for place in range(size)])
            wanted += blocks_wanted(nodes[number])
    return nodes


def random_kin(chance, ids):
    """Parents and who ended, by ids: parents come ahead of their children in the list."""
    parents, gone = {}, []
    for place, number in enumerate(ids):
        elders = [other for other in ids[:place] if other not in gone]
        parents[number] = chance.choice(elders + [0]) if elders else 0
        if parents[number] and chance.random() < 0.15:
            gone.append(number)
    return parents, gone


def random_waits(chance, ids, parents, gone, boxes):
    waits = {number: None for number in ids}
    clock = chance.choice((0, 20, 40))
    sinces = chance.sample(range(clock), clock and 15)
    for number in ids:
        brood = [child for child in ids if parents[child] == number]
        able = [other for other, (room, letters) in boxes.items() if not letters or len(letters) == room]
        if number in gone:
            waits[number] = ("ended", chance.choice(WORDS))
        elif brood and not set(brood) & set(gone) and chance.random() < 0.3:
            waits[number] = ("child",)
        elif able and sinces and chance.random() < 0.5:
            other = chance.choice(able)
            since = sinces.pop()
            waits[number] = ("send", other, chance.choice(WORDS), since) if boxes[other][1] else ("take", other, since)
    return waits, clock


def random_pages(chance, ids):
    """Pages of the living tasks, some of them with the same words, and lent pages."""
    lent = {number: random_page(chance) for number in chance.sample(range(1, 16), chance.choice((0, 0, 1, 3, 15)))}
    pool = [random_page(chance) for page in range(chance.choice((1, 2, 4)))]
    pages = {number: {} for number in ids}
    for number in lent:
        for holder in range(chance.choice((1, 1, 2, 3))):
            if ids:
                pages[chance.choice(ids)][chance.choice((0, 1, 2, 5, 17, 4095))] = ("lent", number)
    for number in ids:
        for page in (0, 1, 2, 4095):
            if page not in pages[number] and chance.random() < 0.5:
                pages[number][page] = ("own", chance.choice(pool))
    held = {entry[1] for own in pages.values() for entry in own.values() if entry[0] == "lent"}
    return pages, {number: page for number, page in lent.items() if number in held}


def random_plain(seed):
    chance = random.Random(seed)
    ids = chance.sample(range(1, 16), chance.choice((1, 2, 3, 5, 8, 15)))
    boxes = {}
    for number in chance.sample(range(1, 16), chance.choice((0, 1, 2, 3, 15))):
        room = chance.randrange(1, 9)
        many = chance.choice((0, room, chance.randrange(room + 1)))
        boxes[number] = (room, [chance.choice(WORDS) for letter in range(many)])
    parents, gone = random_kin(chance, ids)
    waits, clock = random_waits(chance, ids, parents, gone, boxes)
    pages, lent = random_pages(chance, [number for number in ids if number not in gone])
    nodes = random_nodes(chance)
    tasks = {}
    for number in ids:
        living = number not in gone
        tasks[number] = task(
            parent=parents[number], rank=chance.randrange(4), regs=[chance.choice(WORDS) for place in range(8)],
            row=chance.choice((0, 1, 5, 15, 16, 31, 40, 4095 * 16, 4095 * 16 + 15, TOP)), waits=waits[number],
            handler=chance.choice((0, 0, 3, 17, TOP)), pages=pages.get(number, {}),
        )
        if living:
            tasks[number]["rung"] = chance.random() < 0.3
            tasks[number]["saved"] = chance.choice((None, None, ([chance.choice(WORDS)] * 8, chance.choice(WORDS))))
            many = chance.choice((0, 1, 3, 7))
            tasks[number]["handles"] = {handle: chance.choice(list(nodes)) for handle in chance.sample(range(1, 8), many)}
    return {"tasks": tasks, "lent": lent, "nodes": nodes, "boxes": boxes, "clock": clock}


def random_memory(chance, plain):
    """A memory in which tasks have the plain state's pages; own pages with the same words may be parted."""
    entries, frames = [], []
    lent = {}
    for number in plain["lent"]:
        lent[number] = len(frames)
        frames.append([plain["lent"][number], "lent", 0])
    tables = {number: {} for number, own in plain["tasks"].items() if not (own["waits"] and own["waits"][0] == "ended")}
    for number, table in tables.items():
        for page, entry in plain["tasks"][number]["pages"].items():
            if entry[0] == "lent":
                frame = lent[entry[1]]
            else:
                like = [place for place, told in enumerate(frames) if told[1] == "parted" and told[0] == entry[1]]
                if like and chance.random() < 0.7:
                    frame = chance.choice(like)
                else:
                    frame = len(frames)
                    frames.append([entry[1], chance.choice(("own", "parted", "parted")), 0])
            frames[frame][2] += 1
            table[page] = (frame, frames[frame][1])
    promised = sum(many - 1 for words, way, many in frames if way == "parted")
    many = max(4, len(frames) + promised + chance.choice((0, 0, 1, 2, 5, 20)))
    if many > 64:
        return None
    places = chance.sample(range(many), len(frames))
    memory = {"frames": [random_page(chance) for frame in range(many)], "held": [0] * many, "lent": {}, "tables": {}}
    for place, (words, way, held) in zip(places, frames):
        memory["frames"][place], memory["held"][place] = words, held
    memory["lent"] = {number: places[frame] for number, frame in lent.items()}
    memory["tables"] = {number: {page: (places[frame], way) for page, (frame, way) in table.items()}
                        for number, table in tables.items()}
    return memory


def random_slots(chance, plain, tying):
    some = {}
    chains = {}
    for number, own in plain["tasks"].items():
        waits = own["waits"]
        some[number] = slot(**{key: own[key] for key in ("parent", "rank", "regs", "row", "handler", "rung", "saved")})
        some[number]["handles"] = {handle: tying[node] for handle, node in own["handles"].items()}
        some[number]["waits"] = waits
        if waits and waits[0] in ("send", "take"):
            some[number]["waits"] = waits[:2]
            some[number]["word"] = waits[2] if waits[0] == "send" else 0
            chains.setdefault(waits[1], []).append((waits[-1], number))
    for chain in chains.values():
        chain.sort()
        for (since, number), (later, after) in zip(chain, chain[1:]):
            some[number]["next"] = after
    for number in some:
        brood = [child for child in some if some[child]["parent"] == number]
        chance.shuffle(brood)
        for child, elder in zip(brood, brood[1:]):
            some[child]["sibling"] = elder
        some[number]["first"] = brood[0] if brood else 0
    boxes = {}
    for number, (room, letters) in plain["boxes"].items():
        boxes[number] = box(room, letters, chance.randrange(8), [task for since, task in chains.get(number, [])])
    return slots_of(some), boxes_of(boxes)


def random_turns(chance, slots):
    turns = ([], [], [], [], [])
    ready = [number for number, own in enumerate(slots) if own is not None and own["waits"] is None]
    chance.shuffle(ready)
    for number in ready:
        if chance.random() < 0.2:
            turns[4].append((number, 8))
        else:
            turns[slots[number]["rank"]].append((number, chance.randrange(8)))
    return turns


def kernel_of(plain, seed):
    """A kernel that is the same as a plain state, and the tying; or None where it wants too many frames or blocks."""
    chance = random.Random(seed)
    memory = random_memory(chance, plain)
    wanted = sum(1 + blocks_wanted(node) for node in plain["nodes"].values())
    sizes = [many for many in range(32, 201) if many - root_at(many) >= wanted]
    if memory is None or not sizes:
        return None
    many = min(200, sizes[0] + chance.choice((0, 0, 1, 1, 2, 5, 40)))
    floor, tying = scattered(chance, many, plain["nodes"])
    slots, boxes = random_slots(chance, plain, tying)
    kernel = {"memory": memory, "slots": slots, "boxes": boxes, "floor": floor, "turns": random_turns(chance, slots)}
    return kernel, tying


def worlds(many, first=0):
    """So many tuples (seed, kernel, plain state, tying), each written at random."""
    seed = first
    while many:
        plain = random_plain(seed)
        told = kernel_of(plain, seed + 1000)
        if told is not None:
            many -= 1
            yield seed, told[0], plain, told[1]
        seed += 1


def ready_ones(plain):
    return sorted(number for number, own in plain["tasks"].items() if own["waits"] is None)


def random_call(chance, plain, number, caller):
    """Words for a call, often ones that are there."""
    own = plain["tasks"][caller]
    handles = list(own["handles"]) + [0, 0, 8]
    folders = [handle for handle in [0] + list(own["handles"])
               if handle == 0 or plain["nodes"][own["handles"][handle]][0] == "folder"]
    files = [handle for handle in own["handles"] if plain["nodes"][own["handles"][handle]][0] == "file"] or [0]
    word = chance.choice(WORDS)
    if chance.random() < 0.1:
        return word, chance.choice(WORDS), chance.choice(WORDS)
    if number in (5, 6, 7):
        return chance.choice(list(plain["boxes"]) + [0, 16]), word, word
    if number == 9:
        return chance.choice(list(plain["tasks"]) + [0, 16]), word, word
    if number in (11, 12, 13, 14, 17):
        folder = chance.choice(folders)
        names = plain["nodes"][0 if folder == 0 else own["handles"][folder]][1]
        name = chance.choice(list(names) + [6, 6, 0]) if number != 17 else chance.choice((0, len(names) - 1, len(names)))
        return folder, max(name, 0), word
    if number in (18, 19, 20):
        handle = chance.choice(files)
        size = len(plain["nodes"][0 if handle == 0 else own["handles"][handle]][1])
        return handle, max(0, chance.choice((0, size - 1, size, size, size + 1, size // 2))), word
    if number in (15, 16):
        return chance.choice(handles), word, word
    if number in (21, 22, 23):
        return chance.choice(list(own["pages"]) + [0, 3, 9, 4095, 4096]), word, word
    if number == 24:
        return chance.choice(list(plain["lent"]) + [0, 16]), chance.choice(list(own["pages"]) + [3, 9, 4094, 4096]), word
    return chance.choice((0, 1, 2, 3, 4, 8, 9, word)), word, word


def seen_tasks(tasks):
    return {number: {key: own[key] for key in ("parent", "rank", "regs", "row", "handler", "rung", "saved")}
            for number, own in tasks.items()}


def seen_of_kernel(kernel):
    """What is to be seen of a kernel, whatever frames, chains of kin and blocks it has it in."""
    memory, slots, boxes = kernel["memory"], kernel["slots"], kernel["boxes"]
    some = {number: own for number, own in enumerate(slots) if own is not None}
    told = seen_tasks(some)
    numbers = {frame: number for number, frame in memory["lent"].items()}
    for number, own in some.items():
        told[number]["waits"] = own["waits"] if own["waits"] is None or own["waits"][0] != "send" else (
            own["waits"] + (own["word"],))
        told[number]["handles"] = own["handles"]
        table = memory["tables"].get(number, {})
        told[number]["pages"] = {page: ("lent", numbers[frame]) if way == "lent" else ("own", memory["frames"][frame])
                                 for page, (frame, way) in table.items()}
    lent = {number: memory["frames"][frame] for number, frame in memory["lent"].items()}
    seen_boxes = {}
    for number, own in enumerate(boxes):
        if own is not None:
            letters = [own["places"][(own["start"] + step) % 8] for step in range(own["many"])]
            chain, after = [], own["head"]
            while after:
                chain.append(after)
                after = slots[after]["next"]
            seen_boxes[number] = (own["room"], letters, chain)
    return {"tasks": told, "lent": lent, "boxes": seen_boxes, "tree": seen_tree(kernel["floor"])}


def seen_tree(floor):
    tree, todo = {}, [root_at(len(floor))]
    while todo:
        head = todo.pop()
        kind, many = floor[head][:2]
        cells = [word for number in floor[head][2:6] if number for word in floor[number]]
        if kind == 1:
            tree[head] = ("file", cells[:many])
        else:
            tree[head] = ("folder", dict(zip(cells[0:2 * many:2], cells[1:2 * many:2])))
            todo.extend(tree[head][1].values())
    return tree


def seen_of_plain(plain, tying):
    """The same of a plain state, by heads."""
    told = seen_tasks(plain["tasks"])
    chains = {}
    for number, own in plain["tasks"].items():
        waits = own["waits"]
        told[number]["waits"] = waits
        if waits and waits[0] in ("send", "take"):
            chains.setdefault(waits[1], []).append((waits[-1], number))
            told[number]["waits"] = waits[:-1]
        told[number]["handles"] = {handle: tying[node] for handle, node in own["handles"].items()}
        told[number]["pages"] = own["pages"]
    boxes = {number: (room, letters, [task for since, task in sorted(chains.get(number, []))])
             for number, (room, letters) in plain["boxes"].items()}
    tree = {}
    for number, node in plain["nodes"].items():
        if node[0] == "folder":
            node = ("folder", {name: tying[inner] for name, inner in node[1].items()})
        tree[tying[number]] = node
    return {"tasks": told, "lent": plain["lent"], "boxes": boxes, "tree": tree}


def carried_on(tying, came):
    """The tying behind a head that came or went."""
    if came is None:
        return tying
    if came[0] == "made":
        return {**tying, min(number for number in range(41) if number not in tying): came[1]}
    return {number: head for number, head in tying.items() if head != came[1]}
