"""Plain states for the tests, written by hand."""

TOP = 2 ** 32 - 1
BAD, LACK, HELD, NONE, BELL = TOP, TOP - 1, TOP - 2, TOP - 3, TOP - 4
NOUGHTS = (0,) * 16
RISING = tuple(range(16))


def task(**news):
    own = {
        "parent": 0, "rank": 1, "regs": [0] * 8, "row": 0, "pages": {}, "handles": {}, "waits": None,
        "handler": 0, "rung": False, "saved": None,
    }
    assert not set(news) - set(own)
    own.update(news)
    return own


def state(tasks=None, **news):
    own = {
        "tasks": {1: task()} if tasks is None else tasks, "lent": {}, "nodes": {0: ("folder", {})}, "boxes": {},
        "clock": 0,
    }
    assert not set(news) - set(own)
    own.update(news)
    return own


def many_tasks(many, **news):
    return {number: task(**news) for number in range(1, many + 1)}


def regs(*words):
    return list(words) + [0] * (8 - len(words))


def seventh():
    """A state with a wait of each kind, files in folders, boxes full and empty, lent pages, and a task that ended."""
    return {
        "tasks": {
            1: task(rank=3, regs=[1, 2, 3, 4, 5, 6, 7, TOP], row=TOP, handler=9, rung=True, saved=([9] * 8, 40),
                    pages={0: ("own", RISING), 1: ("lent", 2), 4095: ("lent", 2)}, handles={1: 0, 7: 3, 2: 3}),
            2: task(parent=1, waits=("ended", TOP), regs=[3] * 8),
            3: task(parent=1, waits=("child",), rank=0, pages={7: ("lent", 2), 8: ("lent", 5)}, rung=True),
            4: task(parent=3, waits=("send", 2, 77, 8), handler=TOP),
            5: task(parent=3, waits=("send", 2, 0, 3)),
            15: task(waits=("take", 15, 5), handles={4: 1}),
            9: task(parent=15, waits=("take", 15, 0), saved=([0] * 8, TOP), handler=1),
            10: task(parent=15),
        },
        "lent": {2: NOUGHTS, 5: RISING},
        "nodes": {
            0: ("folder", {5: 1, TOP: 3, 1: 39}), 1: ("folder", {5: 2}), 2: ("folder", {}), 3: ("file", [TOP] * 64),
            39: ("file", []),
        },
        "boxes": {1: (8, [1] * 7), 2: (2, [4, 5]), 15: (1, [])},
        "clock": 9,
    }


def good_states():
    full = {name: name for name in range(1, 33)}
    folder = {name: 32 + name for name in range(1, 8)}
    wide = {0: ("folder", full), 32: ("folder", folder)}
    for node in list(range(1, 32)) + list(range(33, 40)):
        wide[node] = ("file", [node] * node)
    line = {1: task()}
    for number in range(2, 16):
        line[number] = task(parent=number - 1, waits=None)
        line[number - 1]["waits"] = ("child",)
    return [
        state({}), state(), seventh(), state(line), state({}, nodes=wide), state(many_tasks(15), clock=10 ** 12),
        state({1: task(pages={0: ("lent", 16)})}, lent={16: NOUGHTS}),
        state({7: task(parent=3), 3: task(waits=("child",))}),
        state({7: task(rung=True, handler=3), 3: task(saved=([0] * 8, 0), handler=0)}),
        state({1: task(waits=("take", 4, 1)), 2: task(waits=("send", 5, 1, 0))}, boxes={4: (8, []), 5: (1, [7])}, clock=2),
    ]
