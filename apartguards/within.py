"""Guards in some rooms of a tree, as if there were no others."""

from apartguards.trees import hung_from, is_room


def all_rooms(tree):
    """Tell all rooms of a tree, rising."""
    return list(range(len(tree)))


def rows_within(tree, rooms):
    """Tell for each of some rooms those among them that are beside it, rising."""
    inside = {room: True for room in rooms}
    return {room: [near for near in tree.beside(room) if near in inside] for room in rooms}


def inward(rows, start):
    """Tell all rooms that hang together with one but itself, each with the next one nearer to it.

    Each room comes behind all that hang on it.
    """
    return list(hung_from(rows, start).items())[:0:-1]


def rooms_out(rows, guards, guard):
    """Tell the rooms beside a guard that have no other one of these guards beside them."""
    found = []
    for room in rows[guard]:
        if not [near for near in rows[room] if near in guards and near != guard]:
            found.append(room)
    return found


def outs_within(tree, rooms, setting):
    """Tell a room to go out into for each guard that isn't in the greatest lock, in the order of a peel."""
    rows = rows_within(tree, rooms)
    left = {guard: True for guard in setting if guard in rows}
    # How many of those who are left stand beside each room: counted once, not over and over for each of them.
    many = {room: len([near for near in rows[room] if near in left]) for room in rows}
    outs = {}
    more = True
    while more:
        more = False
        for guard in list(left):
            found = [room for room in rows[guard] if many[room] == 1]
            if found:
                outs[guard] = found[0]
                del left[guard]
                for room in rows[guard]:
                    many[room] -= 1
                more = True
    return outs


def lock_within(tree, rooms, setting):
    """Tell the greatest lock of the guards in some rooms, in these rooms alone, rising."""
    inside = {room: True for room in rooms}
    outs = outs_within(tree, rooms, setting)
    return tuple([guard for guard in setting if guard in inside and guard not in outs])


def free_within(tree, rooms, setting, guard):
    """Tell slides in some rooms alone, the guard's the last one, or None where it is locked in them."""
    outs = outs_within(tree, rooms, setting)
    if guard not in outs:
        return None
    # Whoever stands beside a guard's room out is ahead of it in the peel, and its own room
    # out lies away from that one: nobody is met twice, and nobody comes in another one's way.
    going = {guard: True}
    todo = [guard]
    while todo:
        one = todo.pop()
        for near in tree.beside(outs[one]):
            if near in outs and near != one:
                going[near] = True
                todo.append(near)
    return [(one, outs[one]) for one in outs if one in going]


def wrong_guard(tree, setting, things):
    """Tell the number of the first thing that is no guard of a setting, or stands ahead, or None."""
    seen = {}
    for at, thing in enumerate(things):
        if not is_room(tree, thing) or thing not in setting or thing in seen:
            return at
        seen[thing] = True
    return None


def loose_guard(tree, rooms, guards):
    """Tell the number of the first of these guards that keeps them from being a lock in some rooms, or None."""
    rows = rows_within(tree, rooms)
    together = {guard: True for guard in guards}
    for at, guard in enumerate(guards):
        if rooms_out(rows, together, guard):
            return at
    return None
