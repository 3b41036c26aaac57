"""Freed: the fewest guards that must be taken out so that a locked one can move."""

from apartguards.errors import NoPaper
from apartguards.locks import check_guard
from apartguards.within import all_rooms, lock_within, loose_guard, wrong_guard


def fewest_out(tree, setting, guard):
    """Tell (taken, bars): as few guards as can be, and at each room beside the guard as many bars."""
    check_guard(tree, setting, guard)
    rooms = tree.beside(guard)
    if not rooms:
        return None
    bars = _bars_away(tree, setting, guard)
    lots = [[head for head in tree.beside(room) if head in bars] for room in rooms]
    # A bar is broken by its head: at the room with the fewest heads nobody keeps the guard in then.
    taken = min(lots, key=len)
    return (tuple(taken), [[bars[head] for head in heads[: len(taken)]] for heads in lots])


def check_out(tree, setting, guard, answer):
    """Refuse what isn't a right answer, whoever made it, its guards in whatever order."""
    check_guard(tree, setting, guard)
    rooms = tree.beside(guard)
    if not rooms:
        if answer is not None:
            raise NoPaper(-1)
        return
    if not isinstance(answer, tuple) or len(answer) != 2:
        raise NoPaper(-1)
    taken, bars = answer
    if not _frees(tree, setting, guard, taken):
        raise NoPaper(0)
    if not isinstance(bars, list) or len(bars) != len(rooms):
        raise NoPaper(1)
    for at, room in enumerate(rooms):
        if not _are_bars(tree, setting, guard, room, bars[at], len(taken)):
            raise NoPaper(2 + at)


def _bars_away(tree, setting, guard):
    """Tell for each guard who is locked in a branch away from a room beside a guard all who are locked there.

    These branches, the guard's own left out, are the pieces without the guard and the rooms beside it.
    So one look at all of them tells for each head of a bar who is locked in its branch.
    """
    pieces = tree.pieces([guard, *tree.beside(guard)])
    guards = lock_within(tree, [room for piece in pieces for room in piece], setting)
    locked = {room: True for room in guards}
    bars = {}
    for piece in pieces:
        bar = tuple([room for room in piece if room in locked])
        for room in bar:
            bars[room] = bar
    return bars


def _are_guards(tree, setting, things):
    """Tell whether a thing, of whatever kind, is a tuple of unlike guards of a setting."""
    return isinstance(things, tuple) and wrong_guard(tree, setting, things) is None


def _frees(tree, setting, guard, taken):
    """Tell whether a thing is a tuple of other guards without whom the guard isn't locked."""
    if not _are_guards(tree, setting, taken) or guard in taken:
        return False
    left = [one for one in setting if one not in taken]
    return guard not in lock_within(tree, all_rooms(tree), left)


def _are_bars(tree, setting, guard, room, bars, many):
    """Tell whether a thing is a list of so many bars of a guard and a room, in unlike branches."""
    if not isinstance(bars, list) or len(bars) != many:
        return False
    heads = {}
    for bar in bars:
        head = _head_of(tree, setting, guard, room, bar)
        if head is None or head in heads:
            return False
        heads[head] = True
    return True


def _head_of(tree, setting, guard, room, bar):
    """Tell the head of what is a bar of a guard and a room, in whatever order, or None."""
    if not _are_guards(tree, setting, bar):
        return None
    heads = [near for near in tree.beside(room) if near in bar and near != guard]
    if not heads:
        return None
    branch = tree.branch(heads[0], away=room)
    if [one for one in bar if one not in branch] or loose_guard(tree, branch, bar) is not None:
        return None
    return heads[0]
