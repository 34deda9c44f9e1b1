"""Deeds that a shell does. Each is told the shell, and the things that stood behind its word."""

from manyheads.errors import BadHunt
from manyheads.history import History
from manyheads.hunt import Hunt
from manyheads.packread import pack_read
from manyheads.patchread import read_patches
from manyheads.record import recorded
from manyheads.store import put_together


def _take(shell, things):
    put_together(shell.kept.store, read_patches("\n".join(things[0])))


def _set(shell, things):
    head, names = things
    shell.kept.set_head(head, shell.kept.store.closed_by(names))


def _drop(shell, things):
    shell.kept.drop_head(things[0])


def _merge(shell, things):
    shell.kept.merge_heads(things[0], things[1])


def _pick(shell, things):
    shell.kept.pick(things[0], things[1])


def _out(shell, things):
    shell.kept.take_out(things[0], things[1])


def _with(shell, things):
    shell.kept.take_with(things[0], things[1])


def _undo(shell, things):
    shell.kept.undo()


def _redo(shell, things):
    shell.kept.redo()


def _go(shell, things):
    shell.kept.go(things[0])


def _sweep(shell, things):
    shell.kept.sweep()


def _unpack(shell, things):
    kept = pack_read("\n".join(things[0]))
    shell.kept = kept if isinstance(kept, History) else History(kept)
    shell.hunting = None
    shell.views = {}


def _change(shell, things):
    head, hand, texts = things
    patch = recorded(shell.kept.store, head, hand, texts)
    if patch is not None:
        shell.kept.put_patch(patch)
        shell.kept.pick(head, patch.name)


def _hunt(shell, things):
    head, others = things
    store = shell.kept.store
    shell.hunting = Hunt(store, store.head_set(head), [store.head_set(other) for other in others], [])


def _bad(shell, things):
    hunt_of(shell).tell(True)


def _good(shell, things):
    hunt_of(shell).tell(False)


def _back(shell, things):
    hunt_of(shell).back()


def hunt_of(shell):
    """The hunt of a shell."""
    if shell.hunting is None:
        raise BadHunt("there is no hunt")
    return shell.hunting


DEEDS = {
    "take": _take, "set": _set, "drop": _drop, "merge": _merge, "pick": _pick, "out": _out, "with": _with,
    "undo": _undo, "redo": _redo, "go": _go, "sweep": _sweep, "unpack": _unpack, "record": _change, "hunt": _hunt,
    "bad": _bad, "good": _good, "back": _back,
}
