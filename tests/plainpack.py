"""A second reading of packs: what can be built of a text, and told again as the very text, is a pack.

Whether some rows begin a pack is found by trying to end them.
"""

import re

from manyheads.history import history_of
from manyheads.pack import pack_text
from manyheads.patchread import read_patches
from manyheads.store import Store


class NoPack(Exception):
    """Rows that are no pack."""


def due(so):
    if not so:
        raise NoPack


def sum_row(rows):
    total = 0
    for sign in "".join(row + "\n" for row in rows):
        total = (257 * total + ord(sign)) % 1000000007
    return f"sum {total}"


def built(rows):
    """The store or history that the rows of a whole pack tell."""
    due(rows[:1] == ["pack"] and len(rows) > 1 and rows[-1] == sum_row(rows[:-1]))
    rows = rows[1:-1]
    at = next((at for at, row in enumerate(rows) if row.split(" ")[0] in ("head", "states")), len(rows))
    store = Store()
    try:
        for patch in patches_in(rows[:at]):
            due(patch.told()[0] not in store.names())
            store.put_patch(patch)
        return with_heads(store, rows[at:])
    except (ValueError, IndexError, KeyError):
        raise NoPack from None


def patches_in(rows):
    """The patches that some rows tell, in which texts that stood ahead are told by numbers."""
    texts, told = [], []
    for row in rows:
        if row.startswith("+"):
            due(row not in texts)
            texts.append(row)
        if row.startswith("="):
            due(row[1:].isdigit() and len(row) < 8 and row == f"={int(row[1:])}" and int(row[1:]) < len(texts))
            row = texts[int(row[1:])]
        told.append(row)
    return read_patches("\n".join(told)) if told else []


def with_heads(store, rows):
    """The store with heads, or the history with states, that these rows tell."""
    words = [row.split(" ") for row in rows]
    if not words or words[0][0] == "head":
        due(all(row[0] == "head" for row in words))
        for _, head, *names in words:
            store.set_head(head, set_of(store, names))
        return store
    _, count, here, latest = words[0]
    heads = [row for row in words[1:] if row[0] == "head"]
    later = [row for row in words[1:] if row[0] != "head"]
    due(int(count) == 1 + len(later) and all(re.fullmatch("[a-z]{1,8}", row[1]) for row in heads))
    states = [(None, number_of(latest), {head: tuple(set_of(store, names)) for _, head, *names in heads})]
    for word, parent, latest, head, *names in later:
        due(word == "state" and re.fullmatch("[a-z]{1,8}", head))
        table = dict(states[int(parent)][2])
        if names == ["gone"]:
            del table[head]
        else:
            table[head] = tuple(set_of(store, names))
        due(table != states[int(parent)][2])
        states.append((int(parent), number_of(latest), table))
    due(is_tree(int(here), [(parent, latest) for parent, latest, _ in states]))
    told = tuple((parent, latest, tuple(sorted(table.items()))) for parent, latest, table in states)
    return history_of(store, (int(here), told))


def set_of(store, names):
    return store.closed_by([] if names == ["none"] else [(name.split(".")[0], int(name.split(".")[1])) for name in names])


def number_of(word):
    return None if word == "none" else int(word)


def is_tree(here, states):
    """Whether states of these parents and latest children can be those of a history that is at one of them."""
    if not 0 <= here < len(states):
        return False
    for number, (parent, latest) in enumerate(states):
        children = [child for child, (other, _) in enumerate(states) if other == number]
        if number and not (parent is not None and 0 <= parent < number):
            return False
        if latest not in (children or [None]):
            return False
    return here == 0 or states[states[here][0]][1] == here


def is_pack(rows):
    try:
        return pack_text(built(rows)) == "\n".join(rows)
    except NoPack:
        return False


def endings(rows):
    """Some rows each with which given rows can come to a patch's end, or to the end of all states."""
    yield []
    if rows[-1].startswith("put "):
        yield ["+a text that stood nowhere"]
    if rows[-1].startswith("patch "):
        names = [".".join(row.split(" ")[1:]) for row in rows[:-1] if row.startswith("patch ")]
        yield ["knows none"]
        yield ["knows " + "".join(names[-1:])]
    words = [row.split(" ") for row in rows if row.startswith("state")]
    if words and words[0][0] == "states" and len(words[0]) == 4 and all(len(row) > 4 for row in words[1:]) and words[0][1].isdigit():
        yield from state_endings([row[1:3] for row in words[1:]], min(int(words[0][1]), 50), words[0])


def state_endings(states, count, first):
    """Rows of states that may come behind those that were told, and end a tree."""
    number = len(states) + 1
    if number >= count:
        yield []
        return
    # A state that was told to be the latest of another one is that one's child; others are children of state 0.
    owners = {first[3]: "0"} | {latest: str(at) for at, (_, latest) in enumerate(states, start=1)}
    parent = owners.get(str(number), "0")
    open_here = first[2].isdigit() and int(first[2]) > number and first[2] not in owners
    for latest in ("none", first[2]) if open_here else ("none",):
        row = f"state {parent} {latest} {'zy'[number % 2] + chr(97 + number % 26)} none"
        for more in state_endings(states + [[parent, latest]], count, first):
            yield [row] + more


def begins(rows, is_whole):
    """Whether rows are a beginning of a pack; is_whole tells whether rows are one."""
    if len(rows) < 2 or is_whole(rows):
        return not rows or is_whole(rows) or is_whole(rows + [sum_row(rows)])
    return any(is_whole(whole + [sum_row(whole)]) for whole in (rows + more for more in endings(rows)))


def wrong_row(text, is_whole=is_pack):
    """The first row with which a text is no beginning of any pack, the row behind its last one, or None of a pack."""
    rows = text.split("\n")
    if is_whole(rows):
        return None
    low, high = 0, len(rows) + 1
    # So many rows are a beginning; so many more aren't.
    while high - low > 1:
        middle = (low + high) // 2
        if middle <= len(rows) and begins(rows[:middle], is_whole):
            low = middle
        else:
            high = middle
    return high


def is_thin(rows):
    """Whether rows are a thin pack, by all that the promise names."""
    if rows[:1] != ["thin"] or len(rows) < 2 or rows[-1] != sum_row(rows[:-1]):
        return False
    try:
        stood, elsewhere, known = {}, set(), {}
        for patch in patches_in(rows[1:-1]):
            name, knows, deeds = patch.told()
            due(name not in stood and name not in elsewhere)
            row = list(stood)
            if all(other in stood for other in knows):
                behind = row[max([row.index(other) for other in knows], default=-1) + 1:]
                due(all(other < name for other in behind))
            known[name] = set(knows).union(*[known.get(other, set()) for other in knows])
            reaches = not known[name] <= set(stood)
            named = [line for deed in deeds for line in deed[1:3] if line[0] and line[:2] != name]
            for line in named:
                due(line[:2] in known[name] and line[2] <= stood[line[:2]] if line[:2] in stood else reaches)
            elsewhere |= {other for other in [*knows, *[line[:2] for line in named]] if other not in stood}
            stood[name] = sum(len(deed[3]) for deed in deeds if deed[0] == "put")
    except (NoPack, ValueError):
        return False
    return True


def wrong_thin_row(text):
    return wrong_row(text, is_thin)
