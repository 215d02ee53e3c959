"""The kernel's slots and boxes for the tests, written by hand."""

TOP = 2 ** 32 - 1
BAD, LACK, HELD, NONE, BELL = TOP, TOP - 1, TOP - 2, TOP - 3, TOP - 4


def slot(**news):
    own = {
        "parent": 0, "rank": 1, "regs": [0] * 8, "row": 0, "handles": {}, "handler": 0, "rung": False, "saved": None,
        "waits": None, "word": 0, "next": 0, "first": 0, "sibling": 0,
    }
    assert not set(news) - set(own)
    own.update(news)
    return own


def slots_of(some):
    return [some.get(number) for number in range(16)]


def box(room=8, letters=(), start=0, chain=()):
    places = [0] * 8
    for step, word in enumerate(letters):
        places[(start + step) % 8] = word
    head, tail = (chain[0], chain[-1]) if chain else (0, 0)
    return {"room": room, "places": places, "start": start, "many": len(letters), "head": head, "tail": tail}


def boxes_of(some):
    return [some.get(number) for number in range(16)]


def waiting(number, way, *chain, words=()):
    """Slots of those that wait at a box, chained in this order."""
    told = {}
    for place, task in enumerate(chain):
        after = chain[place + 1] if place + 1 < len(chain) else 0
        told[task] = slot(waits=(way, number), next=after, word=words[place] if words else 0, regs=[task] * 8)
    return told


def with_slot(slots, task, **news):
    return slots[:task] + [{**slots[task], **news}] + slots[task + 1:]


def with_box(boxes, number, told):
    return boxes[:number] + [told] + boxes[number + 1:]
