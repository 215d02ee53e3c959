"""What the tests share: calls that must leave what they were handed as it was, and things with one part of another kind."""

import copy


def kept(test, deed, *parts):
    """What the deed tells; the test fails where a part that was handed in is other than before."""
    before = copy.deepcopy(parts)
    told = deed(*parts)
    test.assertEqual(repr(parts), repr(before))
    return told


def changed(thing, path, part):
    """A copy of nested dicts, lists and tuples, with this part at the end of the path."""
    if not path:
        return part
    if isinstance(thing, tuple):
        return tuple(changed(list(thing), path, part))
    new = copy.copy(thing)
    new[path[0]] = changed(thing[path[0]] if len(path) > 1 else None, path[1:], part)
    return new


def others_of_kind(thing):
    """Things of other kinds than this one, none of which can stand where it stood."""
    if thing is None:
        return [0, False, "", (), [], {}, "None"]
    if isinstance(thing, bool):
        return [int(thing), None, str(thing), [thing], (thing,)]
    if isinstance(thing, int):
        return [thing == 1, str(thing), float(thing), None, [thing], (thing,), {thing: thing}]
    if isinstance(thing, str):
        return [thing + "x", thing.upper(), "", None, 0, [thing], (thing,)]
    if isinstance(thing, tuple):
        return [list(thing), thing + (0,), thing[:-1], 0, True, "x", {}]
    if isinstance(thing, list):
        return [tuple(thing), None, 0, "x", dict(enumerate(thing))]
    return [list(thing.items()), tuple(thing), None, 0, "x", {**thing, "x": 0}, {**thing, None: 0}, {**thing, (): 0}]


def other_keys(thing):
    for key in thing:
        if isinstance(key, str):
            yield {k: v for k, v in thing.items() if k != key}
            yield {(k + "x" if k == key else k): v for k, v in thing.items()}
            continue
        others = [str(key), float(key)] + ([bool(key)] if key in (0, 1) else [])
        for other in others:
            yield {(other if k == key else k): v for k, v in thing.items()}


def bends(thing):
    """Copies of a thing with just one part, at whatever depth, of another kind or form."""
    for other in others_of_kind(thing):
        yield other
    if isinstance(thing, dict):
        yield from other_keys(thing)
        for key in thing:
            for part in bends(thing[key]):
                yield {**thing, key: part}
    elif isinstance(thing, (list, tuple)):
        for place, inner in enumerate(thing):
            for part in bends(inner):
                new = list(thing)
                new[place] = part
                yield new if isinstance(thing, list) else tuple(new)


NO_STATES = (
    None, True, False, 0, 1, -1, 2.5, "", "tasks", b"", [], (), {}, set(), [None], (None,), {0: 0}, {None: None},
    {"tasks": {}}, object(), len,
)
