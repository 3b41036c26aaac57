"""Settings: guards in rooms of a tree, no two side by side, and how they move."""

from apartguards.errors import NoPaper, NoSetting, NoSlide, TooMany, Unlike
from apartguards.trees import is_room


def check_setting(tree, setting):
    """Refuse what is no setting of the tree."""
    if not isinstance(setting, tuple):
        raise NoSetting(-1)
    last = -1
    barred = {}
    for at, room in enumerate(setting):
        if not is_room(tree, room) or room <= last or room in barred:
            raise NoSetting(at)
        last = room
        for near in tree.beside(room):
            barred[near] = True


def slides(tree, setting):
    """Tell all slides that can be done, rising."""
    check_setting(tree, setting)
    return _slides_of(tree, setting)


def leaps_from(tree, setting):
    """Tell all leaps that can be done, rising."""
    check_setting(tree, setting)
    guards = {room: True for room in setting}
    rooms = range(len(tree))
    return [(room, other) for room in setting for other in rooms if _has_space(tree, guards, room, other)]


def slid(tree, setting, moves):
    """Tell the setting behind a list of slides, each done behind the one ahead."""
    return _moved(tree, setting, moves, _can_slide)


def leapt(tree, setting, moves):
    """Tell the setting behind a list of leaps, each done behind the one ahead."""
    return _moved(tree, setting, moves, _can_leap)


def check_alike(tree, one, other):
    """Refuse what are no two settings of as many guards."""
    check_setting(tree, one)
    check_setting(tree, other)
    if len(one) != len(other):
        raise Unlike(len(one), len(other))


def check_leads(tree, one, other, moves, moved):
    """Refuse an answer of moves that can't be done, or lead elsewhere; moved is slid or leapt."""
    try:
        last = moved(tree, one, moves)
    except NoSlide as refusal:
        raise NoPaper(refusal.at) from None
    if last != other:
        raise NoPaper(len(moves))


def all_settings(tree, many, *, most=1000):
    """Tell all settings of so many guards, rising, if there are never more than most on the way."""
    if most < 1:
        # There is always one setting: that of no guard.
        raise TooMany(most)
    found = [()]
    for _ in range(many):
        if not found:
            break
        found = _with_one_more(tree, found, most)
    return found


def reached(tree, setting, *, most=1000):
    """Tell all settings that come of one by slides, it too, rising, if there are at most most."""
    check_setting(tree, setting)
    found = {setting: True}
    todo = [setting]
    while todo:
        # Asked ahead of each step, so that no more are gone through than most.
        if len(found) > most:
            raise TooMany(most)
        one = todo.pop()
        for move in _slides_of(tree, one):
            behind = _behind(one, move)
            if behind not in found:
                found[behind] = True
                todo.append(behind)
    return sorted(found)


def _slides_of(tree, setting):
    """Tell all slides of what is known to be a setting, rising."""
    guards = {room: True for room in setting}
    return [
        (room, other) for room in setting for other in tree.beside(room) if _has_space(tree, guards, room, other)
    ]


def _has_space(tree, guards, room, other):
    """Tell whether the guard of a room may stand in another one, beside no other guard."""
    if other in guards:
        return False
    for near in tree.beside(other):
        if near in guards and near != room:
            return False
    return True


def _can_leap(tree, guards, move):
    """Tell whether a thing, of whatever kind, is a leap that can be done."""
    if not isinstance(move, tuple) or len(move) != 2:
        return False
    room, other = move
    if not is_room(tree, room) or not is_room(tree, other):
        return False
    return room in guards and _has_space(tree, guards, room, other)


def _can_slide(tree, guards, move):
    """Tell whether a thing, of whatever kind, is a slide that can be done."""
    return _can_leap(tree, guards, move) and move[1] in tree.beside(move[0])


def _moved(tree, setting, moves, can_move):
    """Tell the setting behind a list of moves; can_move tells which can be done."""
    check_setting(tree, setting)
    if not isinstance(moves, list):
        raise NoSlide(-1)
    guards = {room: True for room in setting}
    for at, move in enumerate(moves):
        if not can_move(tree, guards, move):
            raise NoSlide(at)
        room, other = move
        del guards[room]
        guards[other] = True
    return tuple(sorted(guards))


def _behind(setting, move):
    """Tell the setting behind a move that can be done."""
    left, entered = move
    return tuple(sorted([entered if room == left else room for room in setting]))


def _with_one_more(tree, found, most):
    """Tell the settings that begin with one of those found and have one guard more, rising."""
    longer = []
    for setting in found:
        for room in _rooms_behind(tree, setting):
            if len(longer) >= most:
                raise TooMany(most)
            longer.append((*setting, room))
    return longer


def _rooms_behind(tree, setting):
    """Tell the rooms greater than all of a setting and beside none of them, rising."""
    barred = {near: True for room in setting for near in tree.beside(room)}
    first = setting[-1] + 1 if setting else 0
    return [room for room in range(first, len(tree)) if room not in barred]
