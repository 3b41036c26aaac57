"""What comes of what: slides from one setting to another one, or the reason why there are none."""

from apartguards.errors import NoPaper
from apartguards.locks import check_lock, lock
from apartguards.settings import check_leads, check_setting, slid
from apartguards.trees import is_whole
from apartguards.within import free_within, rows_within


def key(tree, setting):
    """Tell (lock, numbers): settings come of one another just where this is the same."""
    guards = lock(tree, setting)
    pieces = pieces_between(tree, guards)
    return (guards, tuple([_many_in(piece, setting) for piece in pieces]))


def come(tree, one, other):
    """Tell ("walk", slides) from the one to the other, or ("lock", side, lock) or ("number", lock, piece)."""
    locks = [lock(tree, one), lock(tree, other)]
    for side, setting in ((0, other), (1, one)):
        if not _stand_in(locks[side], setting):
            return ("lock", side, locks[side])
    # Each greatest lock stands in the other setting, and is a lock there, too: so they are the same.
    pieces = pieces_between(tree, locks[0])
    for piece in pieces:
        if _many_in(piece, one) != _many_in(piece, other):
            return ("number", locks[0], piece)
    moves = []
    for piece in pieces:
        moves.extend(_walk_in(tree, piece, one, other))
    return ("walk", moves)


def check_come(tree, one, other, answer):
    """Refuse what isn't a right answer of one of the three words, whoever made it."""
    check_setting(tree, one)
    check_setting(tree, other)
    if not _is_built(answer):
        raise NoPaper(-1)
    if answer[0] == "walk":
        check_leads(tree, one, other, answer[1], slid)
    elif answer[0] == "number":
        _check_number(tree, one, other, answer[1], answer[2])
    elif answer[1] == 0:
        _check_locked(tree, one, other, answer[2])
    else:
        _check_locked(tree, other, one, answer[2])


def pieces_between(tree, guards):
    """Tell the pieces of the tree without the rooms of a lock and those beside them."""
    without = list(guards)
    for guard in guards:
        without.extend(tree.beside(guard))
    return tree.pieces(without)


def _is_built(answer):
    """Tell whether an answer, of whatever kind, is built as one of the three are."""
    if not isinstance(answer, tuple) or len(answer) < 2:
        return False
    word, *rest = answer
    if word == "walk":
        return len(rest) == 1 and isinstance(rest[0], list)
    if len(rest) != 2:
        return False
    if word == "lock":
        return is_whole(rest[0]) and rest[0] in (0, 1) and isinstance(rest[1], tuple)
    return word == "number" and isinstance(rest[0], tuple) and isinstance(rest[1], list)


def _check_locked(tree, setting, other, guards):
    """Refuse what is no lock of a setting, or stands in the other one, too."""
    check_lock(tree, setting, guards)
    if _stand_in(guards, other):
        raise NoPaper(2 * len(guards))


def _check_number(tree, one, other, guards, piece):
    """Refuse what is no lock of both settings, or no piece between its guards with unlike numbers."""
    both = tuple([room for room in one if room in other])
    check_lock(tree, both, guards)
    # True and False are no rooms, though they are equal to some.
    whole = [room for room in piece if is_whole(room)]
    if len(whole) != len(piece) or piece not in pieces_between(tree, guards):
        raise NoPaper(2 * len(guards))
    if _many_in(piece, one) == _many_in(piece, other):
        raise NoPaper(2 * len(guards) + 1)


def _stand_in(guards, setting):
    """Tell whether all of these guards' rooms have a guard in a setting."""
    return not [guard for guard in guards if guard not in setting]


def _many_in(piece, setting):
    """Tell how many guards a setting has in a piece."""
    return len([room for room in piece if room in setting])


def _walk_in(tree, piece, one, other):
    """Tell slides in a piece that lead from the one setting's guards there to as many of the other's."""
    there = _slides_to_leaves(tree, piece, one)
    back = _slides_to_leaves(tree, piece, other)
    # What both do alike at the end is left out: nothing is done between settings that are the same.
    while there and back and there[-1] == back[-1]:
        there.pop()
        back.pop()
    return there + [(entered, left) for left, entered in back[::-1]]


def _slides_to_leaves(tree, piece, setting):
    """Tell slides that bring all guards of a piece, none of them locked, into leaves that are told by the piece.

    A guard goes into a leaf, and the room beside it is cut off. None of the others is locked in the
    rooms that are left, or with the guard in the leaf they would be a lock of the piece. Which leaves
    these are hangs on the piece alone, so settings of as many guards are brought to the same.
    """
    rows = rows_within(tree, piece)
    guards = {room: True for room in setting if room in rows}
    moves = []
    while guards:
        leaf = _leaf_to_fill(rows)
        steps = _slides_into(tree, rows, guards, leaf)
        for left, entered in steps:
            del guards[left]
            guards[entered] = True
        moves.extend(steps)
        del guards[leaf]
        # What is left hangs together, but for leaves beside the room that is cut off: nobody
        # stands there, or he and the guard in the leaf would be locked.
        rows = rows_within(tree, [room for room in rows if room != rows[leaf][0]])
    return moves


def _leaf_to_fill(rows):
    """Tell the first leaf beside a room that has at most one room beside it that is no leaf."""
    leaves = [room for room in rows if len(rows[room]) == 1]
    found = [leaf for leaf in leaves if len([near for near in rows[rows[leaf][0]] if len(rows[near]) > 1]) < 2]
    return found[0]


def _slides_into(tree, rows, guards, leaf):
    """Tell slides in some rooms, where nobody is locked, that bring a guard into a leaf of them.

    The path of a guard nearest to the leaf is free, but for others beside its first room, who are
    as near. No two of all these are locked in their branches away from that room, or they would be
    locked: so one goes to the leaf, and all others go out of the way first, each in his own branch.
    """
    path = min([tree.between(guard, leaf) for guard in guards], key=len)
    if len(path) == 1:
        return []
    outs = {}
    for guard in tree.beside(path[1]):
        if guard in guards:
            branch = [room for room in tree.branch(guard, away=path[1]) if room in rows]
            outs[guard] = free_within(tree, branch, guards, guard)
    goes = path[0]
    for guard in outs:
        if outs[guard] is None:
            goes = guard
    moves = []
    for guard in outs:
        if guard != goes:
            moves.extend(outs[guard])
    return moves + list(zip([goes, *path[1:]], path[1:]))
