"""The plain machine's memory: own and lent pages, and the calls on them."""

from underfloor.forms import MOST_PAGE, PAGE_WORDS, changed, least_free, put_at
from underfloor.plainstates import BAD, LACK, held_numbers, with_task

MOST_LENT = 15


def nought_page():
    return (0,) * PAGE_WORDS


def page_entry(state, task, page):
    if task not in state["tasks"]:
        return None
    return state["tasks"][task]["pages"].get(page)


def entry_words(state, entry):
    return entry[1] if entry[0] == "own" else state["lent"][entry[1]]


def word_in(state, task, address):
    entry = page_entry(state, task, address // PAGE_WORDS)
    return None if entry is None else entry_words(state, entry)[address % PAGE_WORDS]


def put_word_in(state, task, address, word):
    page = address // PAGE_WORDS
    entry = page_entry(state, task, page)
    if entry is None:
        return None
    words = put_at(entry_words(state, entry), address % PAGE_WORDS, word)
    if entry[0] == "own":
        return with_page(state, task, page, ("own", words))
    return with_lent(state, entry[1], words)


def with_page(state, task, page, entry):
    pages = changed(state["tasks"][task]["pages"], {page: entry})
    return with_task(state, task, {"pages": pages})


def with_lent(state, number, words):
    return changed(state, {"lent": changed(state["lent"], {number: words})})


def with_held_lent(state):
    """A state without the lent pages that no task holds any more."""
    held = held_numbers(state)
    lent = dict([(number, page) for number, page in state["lent"].items() if number in held])
    return changed(state, {"lent": lent})


def copied_pages(state, task):
    # Pages are tuples, so who parts writes none of the other's.
    return dict(state["tasks"][task]["pages"])


def given_back(state, task):
    return with_held_lent(with_task(state, task, {"pages": {}}))


def memory_call(state, task, number, a, b):
    if number == 21:
        return new_page_call(state, task, a)
    if number == 22:
        return give_call(state, task, a)
    if number == 23:
        return lend_call(state, task, a)
    return hold_call(state, task, a, b)


def is_free_page(state, task, page):
    return 0 <= page <= MOST_PAGE and page_entry(state, task, page) is None


def new_page_call(state, task, page):
    if not is_free_page(state, task, page):
        return (state, BAD)
    return (with_page(state, task, page, ("own", nought_page())), 0)


def give_call(state, task, page):
    if page_entry(state, task, page) is None:
        return (state, BAD)
    pages = copied_pages(state, task)
    pages.pop(page)
    return (with_held_lent(with_task(state, task, {"pages": pages})), 0)


def lend_call(state, task, page):
    entry = page_entry(state, task, page)
    if entry is None or entry[0] != "own":
        return (state, BAD)
    number = least_free(state["lent"], 1, MOST_LENT)
    if number is None:
        return (state, LACK)
    lending = with_lent(state, number, entry[1])
    return (with_page(lending, task, page, ("lent", number)), number)


def hold_call(state, task, number, page):
    if number not in state["lent"] or not is_free_page(state, task, page):
        return (state, BAD)
    return (with_page(state, task, page, ("lent", number)), 0)
