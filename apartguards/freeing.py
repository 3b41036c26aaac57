"""Freed: the fewest guards that must be taken out so that a locked one can move."""

from apartguards.errors import NoPaper
from apartguards.locks import branch_lock, branch_locked, check_guard
from apartguards.within import all_rooms, lock_within, loose_guard, wrong_guard


def fewest_out(tree, setting, guard):
    """Tell (taken, bars): as few guards as can be, and at each room beside the guard as many bars."""
    check_guard(tree, setting, guard)
    rooms = tree.beside(guard)
    if not rooms:
        return None
    lots = [_heads_at(tree, setting, guard, room) for room in rooms]
    # A bar is broken by its head: at the room with the fewest heads nobody keeps the guard in then.
    taken = min(lots, key=len)
    bars = []
    for room, heads in zip(rooms, lots):
        bars.append([branch_lock(tree, setting, head, away=room) for head in heads[: len(taken)]])
    return (tuple(taken), bars)


def check_out(tree, setting, guard, answer):
    """Refuse what isn't a right answer, whoever made it, its guards in whatever order."""
    check_guard(tree, setting, guard)
    rooms = tree.beside(guard)
    if not rooms:
        if answer is not None:
            raise NoPaper(-1)
        return
    if not isinstance(answer, tuple) or len(answer) != 2:
        raise NoPaper(-1)
    taken, bars = answer
    if not _frees(tree, setting, guard, taken):
        raise NoPaper(0)
    if not isinstance(bars, list) or len(bars) != len(rooms):
        raise NoPaper(1)
    for at, room in enumerate(rooms):
        if not _are_bars(tree, setting, guard, room, bars[at], len(taken)):
            raise NoPaper(2 + at)


def _heads_at(tree, setting, guard, room):
    """Tell the other guards beside a room who are locked in their branches, rising."""
    others = [near for near in tree.beside(room) if near in setting and near != guard]
    return [head for head in others if branch_locked(tree, setting, head, away=room)]


def _are_guards(tree, setting, things):
    """Tell whether a thing, of whatever kind, is a tuple of unlike guards of a setting."""
    return isinstance(things, tuple) and wrong_guard(tree, setting, things) is None


def _frees(tree, setting, guard, taken):
    """Tell whether a thing is a tuple of other guards without whom the guard isn't locked."""
    if not _are_guards(tree, setting, taken) or guard in taken:
        return False
    left = [one for one in setting if one not in taken]
    return guard not in lock_within(tree, all_rooms(tree), left)


def _are_bars(tree, setting, guard, room, bars, many):
    """Tell whether a thing is a list of so many bars of a guard and a room, in unlike branches."""
    if not isinstance(bars, list) or len(bars) != many:
        return False
    heads = {}
    for bar in bars:
        head = _head_of(tree, setting, guard, room, bar)
        if head is None or head in heads:
            return False
        heads[head] = True
    return True


def _head_of(tree, setting, guard, room, bar):
    """Tell the head of what is a bar of a guard and a room, in whatever order, or None."""
    if not _are_guards(tree, setting, bar):
        return None
    heads = [near for near in tree.beside(room) if near in bar and near != guard]
    if not heads:
        return None
    branch = tree.branch(heads[0], away=room)
    if [one for one in bar if one not in branch] or loose_guard(tree, branch, bar) is not None:
        return None
    return heads[0]
