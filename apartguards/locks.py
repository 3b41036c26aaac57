"""Locks: guards that keep one another in for ever; peels, which show who else can be moved, and how."""

from apartguards.errors import Locked, NoPaper, NoRoom
from apartguards.settings import check_setting
from apartguards.trees import is_room
from apartguards.within import all_rooms, free_within, lock_within, loose_guard
from apartguards.within import outs_within, rooms_out, rows_within, wrong_guard


def lock(tree, setting):
    """Tell the greatest lock: all guards that can never move, rising."""
    check_setting(tree, setting)
    return lock_within(tree, all_rooms(tree), setting)


def peel(tree, setting):
    """Tell a list of (guard, room): the guards outside of the greatest lock, each with a room to go out into."""
    check_setting(tree, setting)
    outs = outs_within(tree, all_rooms(tree), setting)
    return list(outs.items())


def check_peel(tree, setting, answer):
    """Refuse what is no peel of the setting, whoever made it."""
    check_setting(tree, setting)
    if not isinstance(answer, list):
        raise NoPaper(-1)
    rows = rows_within(tree, all_rooms(tree))
    left = {guard: True for guard in setting}
    for at, thing in enumerate(answer):
        if not _can_follow(tree, rows, left, thing):
            raise NoPaper(at)
        del left[thing[0]]
    if [guard for guard in left if rooms_out(rows, left, guard)]:
        raise NoPaper(len(answer))


def check_lock(tree, setting, guards):
    """Refuse what is no lock of the setting, whoever told it, in whatever order."""
    check_setting(tree, setting)
    if not isinstance(guards, tuple):
        raise NoPaper(-1)
    wrong = wrong_guard(tree, setting, guards)
    if wrong is not None:
        raise NoPaper(wrong)
    loose = loose_guard(tree, all_rooms(tree), guards)
    if loose is not None:
        raise NoPaper(len(guards) + loose)


def branch_lock(tree, setting, room, *, away):
    """Tell the greatest lock of the guards in a branch, in its rooms alone, rising."""
    check_setting(tree, setting)
    return lock_within(tree, tree.branch(room, away=away), setting)


def branch_locked(tree, setting, guard, *, away):
    """Tell whether a guard is in the greatest lock of its own branch away from a room beside it."""
    check_setting(tree, setting)
    for thing in (guard, away):
        if not is_room(tree, thing):
            raise NoRoom(thing)
    if guard not in setting:
        raise NoRoom(guard)
    return guard in branch_lock(tree, setting, guard, away=away)


def freed(tree, setting, guard):
    """Tell slides that can be done, each guard moved once at most, the last one being the guard's."""
    check_guard(tree, setting, guard)
    rooms = all_rooms(tree)
    moves = free_within(tree, rooms, setting, guard)
    if moves is None:
        raise Locked(lock_within(tree, rooms, setting))
    return moves


def check_guard(tree, setting, guard):
    """Refuse what is no setting, then what is no room of it with a guard."""
    check_setting(tree, setting)
    if not is_room(tree, guard) or guard not in setting:
        raise NoRoom(guard)


def _can_follow(tree, rows, left, thing):
    """Tell whether a thing, of whatever kind, is the next step of a peel, where these guards are left."""
    if not isinstance(thing, tuple) or len(thing) != 2:
        return False
    guard, room = thing
    if not is_room(tree, guard) or not is_room(tree, room):
        return False
    return guard in left and room in rooms_out(rows, left, guard)
