"""The desk: keeps a pair, and answers rows of words."""

from underfloor.code import decoded
from underfloor.errors import NoRow, NoTask
from underfloor.forms import is_between
from underfloor.frames import free_frames, promised
from underfloor.kin import there
from underfloor.maps import free_blocks
from underfloor.pairs import begun, pair_ring, pair_turn
from underfloor.plainstates import MOST_TASK
from underfloor.stops import stopped_pair
from underfloor.tables import word_at
from underfloor.texts import read_code, read_number, shown_code

# The rows, by their first words: how many numbers stand behind.
ROWS = {
    "turn": 0, "turns": 1, "ring": 1, "tasks": 0, "regs": 1, "word": 2, "code": 1, "files": 0, "free": 0, "stop": 2,
}
MOST_TURNS = 500
# Ten figures write no number from this one on.
FIGURES_BOUND = 10000000000


class Desk:
    """Both machines, begun with a program's text, and what is asked of them."""

    def __init__(self, text, frames, blocks):
        self.pair = begun(read_code(text), frames, blocks)

    def say(self, row):
        words = read_words(row)
        told = answer_of(self.pair, words[0], words[1:])
        self.pair = told[0]
        return told[1]


def read_words(row):
    """A row's first word and its numbers, as a list."""
    words = row.split(" ") if isinstance(row, str) else [""]
    if ROWS.get(words[0]) != len(words) - 1:
        raise NoRow("the desk has no such row")
    numbers = [read_number(word, FIGURES_BOUND) for word in words[1:]]
    if None in numbers or (words[0] == "turns" and not 1 <= numbers[0] <= MOST_TURNS):
        raise NoRow("the desk has no row with such numbers")
    return [words[0]] + numbers


def answer_of(pair, name, numbers):
    """The pair behind a row, and the answer."""
    if name == "turn":
        return turns_answer(pair, 1)
    if name == "turns":
        return turns_answer(pair, numbers[0])
    if name == "ring":
        return (pair_ring(pair, numbers[0]), "ok")
    if name == "stop":
        return (stopped_pair(pair, numbers[0], numbers[1]), "ok")
    return (pair, told_of(pair, name, numbers))


def turns_answer(pair, many):
    behind = pair
    tasks = []
    while len(tasks) < many:
        turn = pair_turn(behind)
        if len(turn[1]) == 0:
            break
        behind = turn[0]
        tasks.append(str(turn[1][0][0]))
    return (behind, joined(" ", tasks))


def joined(between, parts):
    return "none" if len(parts) == 0 else between.join(parts)


def told_of(pair, name, numbers):
    """The answer to a row that changes nothing."""
    if name == "tasks":
        slots = pair[0]["slots"]
        return joined("; ", [shown_task(task, slots[task]["waits"]) for task in there(slots)])
    if name == "files":
        return joined("; ", shown_files(pair[1]["nodes"]))
    if name == "free":
        return shown_free(pair[0])
    task = numbers[0]
    if not is_between(task, 1, MOST_TASK) or pair[0]["slots"][task] is None:
        raise NoTask("there is no such task")
    slot = pair[0]["slots"][task]
    if name == "regs":
        return " ".join([str(word) for word in [slot["row"]] + slot["regs"]])
    if name == "word":
        return shown_word(word_at(pair[0]["memory"], task, numbers[1]))
    return shown_row(word_at(pair[0]["memory"], task, slot["row"]))


def shown_task(task, waits):
    parts = ["ready"] if waits is None else [str(part) for part in waits]
    return " ".join([str(task)] + parts)


def shown_word(word):
    return "none" if word is None else str(word)


def shown_row(word):
    return "none" if word is None or decoded(word) is None else shown_code([word])


def shown_free(kernel):
    memory = kernel["memory"]
    counts = [len(free_frames(memory)), promised(memory), len(free_blocks(kernel["floor"]))]
    return " ".join([str(count) for count in counts])


def shown_files(nodes):
    """Each folder and file but the root, by paths that are sorted as lists of numbers."""
    found = []
    todo = [([], 0)]
    while len(todo) > 0:
        place = todo.pop()
        node = nodes[place[1]]
        found.append((place[0], node))
        if node[0] == "folder":
            todo.extend([(place[0] + [name], inner) for name, inner in node[1].items()])
    rows = sorted(found, key=lambda row: row[0])
    return [shown_node(path, node) for path, node in rows[1:]]


def shown_node(path, node):
    words = [str(word) for word in node[1]] if node[0] == "file" else []
    return " ".join(["/".join([str(name) for name in path]), node[0]] + words)
