"""Both machines side by side: pairs (kernel, plain state, tying), their beginning, steps, turns and bells."""

from underfloor.errors import NoState
from underfloor.floors import LEAST_BLOCKS, MOST_BLOCKS
from underfloor.forms import PAGE_WORDS, changed, is_between, is_words
from underfloor.frames import LEAST_FRAMES, MOST_FRAMES, new_memory
from underfloor.kernelcalls import kernel_ring
from underfloor.maps import root_of
from underfloor.plainstates import MOST_BOX, MOST_TASK, new_plain
from underfloor.steps import kernel_step, kernel_turn, plain_ring, plain_step
from underfloor.trees import new_floor, padded
from underfloor.turns import made_ready, no_turns
from underfloor.tyings import carried

MOST_CODE = 256
FIRST_RANK = 1


def begun(words, frames, blocks):
    if not is_words(words, MOST_CODE) or len(words) == 0:
        raise NoState("this is no list of 1 to 256 words")
    if not is_between(frames, LEAST_FRAMES, MOST_FRAMES) or not is_between(blocks, LEAST_BLOCKS, MOST_BLOCKS):
        raise NoState("there are no so many frames, or blocks")
    pages = pages_of(words)
    if len(pages) > frames:
        raise NoState("there are fewer frames than pages")
    kernel = bare_kernel(frames, new_floor(blocks))
    slots = [None, first_slot()] + kernel["slots"][2:]
    turns = made_ready(no_turns(), 1, FIRST_RANK)
    kernel = changed(kernel, {"memory": first_memory(pages, frames), "slots": slots, "turns": turns})
    plain = changed(new_plain(), {"tasks": {1: first_task(pages)}})
    return (kernel, plain, {0: root_of(kernel["floor"])})


def pages_of(words):
    return [padded(words[place:place + PAGE_WORDS]) for place in range(0, len(words), PAGE_WORDS)]


def bare_kernel(frames, floor):
    """A kernel with nothing but frames of noughts and a floor."""
    return {
        "memory": new_memory(frames), "slots": [None] * (MOST_TASK + 1), "boxes": [None] * (MOST_BOX + 1),
        "floor": floor, "turns": no_turns(),
    }


def first_memory(pages, frames):
    memory = new_memory(frames)
    left = frames - len(pages)
    table = dict([(page, (page, "own")) for page in range(len(pages))])
    return changed(memory, {
        "frames": pages + memory["frames"][len(pages):], "held": [1] * len(pages) + [0] * left, "tables": {1: table},
    })


def first_common():
    """What the first task has in both machines."""
    return {
        "parent": 0, "rank": FIRST_RANK, "regs": [0] * 8, "row": 0, "handles": {}, "waits": None, "handler": 0,
        "rung": False, "saved": None,
    }


def first_slot():
    return changed(first_common(), {"word": 0, "next": 0, "first": 0, "sibling": 0})


def first_task(pages):
    return changed(first_common(), {"pages": dict([(page, ("own", words)) for page, words in enumerate(pages)])})


def pair_step(pair, task):
    step = kernel_step(pair[0], task)
    plain = plain_step(pair[1], task, step[2])[0]
    return ((step[0], plain, carried(pair[2], step[3])), step[1])


def pair_turn(pair):
    turn = kernel_turn(pair[0])
    plain = pair[1]
    tying = dict(pair[2])
    for task, lacked, came in turn[1]:
        plain = plain_step(plain, task, lacked)[0]
        tying = carried(tying, came)
    return ((turn[0], plain, tying), turn[1])


def pair_ring(pair, task):
    return (kernel_ring(pair[0], task), plain_ring(pair[1], task), dict(pair[2]))
