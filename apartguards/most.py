"""The most guards a tree can have, shown by ways that are apart, and where they stand then."""

from apartguards.counts import how_many
from apartguards.errors import NoPaper, NoRoom, NoSetting
from apartguards.settings import check_setting
from apartguards.trees import is_room, is_way
from apartguards.within import all_rooms, inward, rows_within


def most(tree):
    """Tell (setting, ways): ways that are apart, and together as many guards and ways as rooms."""
    return _shown(_takers_on(tree, 0))


def check_most(tree, answer):
    """Tell how many guards such an answer shows, whoever made it; refuse what shows none."""
    if not isinstance(answer, tuple) or len(answer) != 2:
        raise NoPaper(-1)
    setting, ways = answer
    if not _is_setting(tree, setting) or not isinstance(ways, list):
        raise NoPaper(-1)
    wrong = _wrong_way(tree, ways, None)
    if wrong is not None:
        raise NoPaper(wrong)
    if len(setting) + len(ways) != len(tree):
        raise NoPaper(len(ways))
    return len(setting)


def about(tree, room):
    """Tell ("always", setting, ways), ("never", other, setting, ways) or ("some", with, without, ways)."""
    _check_room(tree, room)
    takers = _takers_on(tree, room)
    setting, ways = _shown(takers)
    if room in setting:
        return ("always", setting, ways)
    other = takers[room][0]
    if len(takers[room]) > 1:
        # The room's way goes to the last taker, and none goes to the first.
        return ("never", other, setting, ways)
    # The only guard beside the room can go into it.
    moved = [room if guard == other else guard for guard in setting]
    return ("some", tuple(sorted(moved)), setting, ways)


def check_about(tree, room, answer):
    """Tell the word of a right answer, whoever made it; refuse all else."""
    _check_room(tree, room)
    if not _is_built(answer):
        raise NoPaper(0)
    word = answer[0]
    first = 1
    left_out = room if word == "always" else None
    if word == "never":
        first = 2
        left_out = answer[1]
        if not is_room(tree, left_out) or left_out not in tree.beside(room):
            raise NoPaper(1)
    last = len(answer) - 1
    for at in range(first, last):
        if not _is_setting(tree, answer[at]):
            raise NoPaper(at)
        # Of the two settings the first one has a guard in the room, and the second one has none.
        if word == "some" and (room in answer[at]) != (at == first):
            raise NoPaper(at)
    if not _show_most(tree, answer[first:last], answer[last], left_out):
        raise NoPaper(last)
    return word


def always(tree):
    """Tell all rooms that each greatest setting has, rising."""
    return tuple(sorted(_always_in(tree)))


def never(tree):
    """Tell all rooms that no greatest setting has, rising."""
    found = _always_in(tree)
    return tuple([room for room in all_rooms(tree) if [near for near in tree.beside(room) if near in found]])


def greatest_many(tree):
    """Tell how many greatest settings there are."""
    setting, _ = most(tree)
    return how_many(tree, len(setting))


def _takers_on(tree, start):
    """Tell for each room the takers that hang on it: a room is a taker where none hangs on it.

    All takers are a setting. Each other room has a way to a taker that hangs on it: these ways are
    apart, and takers and ways are as many as rooms.
    """
    rows = rows_within(tree, all_rooms(tree))
    takers = {room: [] for room in rows}
    for room, nearer in inward(rows, start):
        if not takers[room]:
            takers[nearer].append(room)
    return takers


def _shown(takers):
    """Tell the setting of all takers, and for each other room the way to its last one."""
    setting = tuple([room for room in takers if not takers[room]])
    pairs = [(room, takers[room][-1]) for room in takers if takers[room]]
    return (setting, sorted([(min(pair), max(pair)) for pair in pairs]))


def _always_in(tree):
    """Tell a dict of the rooms that each greatest setting has.

    These are the rooms without a way, and then, over and over, each one whose way is to a room
    beside one that is found: that one can have the way in its stead.
    """
    _, ways = most(tree)
    partners = {}
    for one, other in ways:
        partners[one] = other
        partners[other] = one
    found = {room: True for room in all_rooms(tree) if room not in partners}
    todo = list(found)
    while todo:
        last = todo.pop()
        for near in tree.beside(last):
            room = partners[near]
            if room not in found:
                found[room] = True
                todo.append(room)
    return found


def _check_room(tree, room):
    """Refuse what is no room."""
    if not is_room(tree, room):
        raise NoRoom(room)


def _is_setting(tree, thing):
    """Tell whether a thing, of whatever kind, is a setting of the tree."""
    try:
        check_setting(tree, thing)
    except NoSetting:
        return False
    return True


def _is_built(answer):
    """Tell whether an answer, of whatever kind, begins with a word and has as many things as are told with it."""
    if not isinstance(answer, tuple) or not answer:
        return False
    if answer[0] == "always":
        return len(answer) == 3
    return answer[0] in ("never", "some") and len(answer) == 4


def _show_most(tree, settings, ways, left_out):
    """Tell whether a thing is a list of ways that are apart, as many as rooms less guards, none at what is left out."""
    if not isinstance(ways, list) or _wrong_way(tree, ways, left_out) is not None:
        return False
    return not [setting for setting in settings if len(setting) + len(ways) != len(tree)]


def _wrong_way(tree, ways, left_out):
    """Tell the number of the first thing that is no way, or is at a room of one ahead or at one left out, or None."""
    used = {left_out: True}
    for at, thing in enumerate(ways):
        if not _is_way_of(tree, thing) or thing[0] in used or thing[1] in used:
            return at
        used[thing[0]] = True
        used[thing[1]] = True
    return None


def _is_way_of(tree, thing):
    """Tell whether a thing, of whatever kind, is a way of the tree."""
    return is_way(thing, len(tree)) and thing[1] in tree.beside(thing[0])
