"""How many settings there are, and how many of them come of one, without going through them.

One whole number tells for all numbers of guards at once how many settings there are: those of one guard
more stand SPAN bits higher. Sums and products of such numbers are again such, and as a tree has at most
sixty rooms, there are never so many settings that they come into the bits of the next ones.
"""

from apartguards.come import key, pieces_between
from apartguards.trees import MOST_WAYS
from apartguards.within import all_rooms, inward, rows_within

SPAN = 64
NO_GUARD = 1
ONE_GUARD = 1 << SPAN


def how_many(tree, many):
    """Tell how many settings of so many guards there are."""
    return _of_many(_all_in(rows_within(tree, all_rooms(tree))), many)


def how_many_free(tree, many):
    """Tell how many settings of so many guards have none that is locked."""
    return _of_many(_free_in(rows_within(tree, all_rooms(tree))), many)


def how_many_come(tree, setting):
    """Tell how many settings come of one, it too."""
    guards, numbers = key(tree, setting)
    product = 1
    for piece, many in zip(pieces_between(tree, guards), numbers):
        product *= _of_many(_free_in(rows_within(tree, piece)), many)
    return product


def _of_many(told, many):
    """Tell how many settings of so many guards there are among those that a number tells of."""
    # Nothing is shifted by less than no bits, or by far more than there are.
    if many < 0 or many > MOST_WAYS + 1:
        return 0
    return (told >> SPAN * many) % ONE_GUARD


def _all_in(rows):
    """Tell of all settings of rooms that hang together."""
    start = min(rows)
    bare = {room: NO_GUARD for room in rows}
    held = {room: ONE_GUARD for room in rows}
    for room, nearer in inward(rows, start):
        bare[nearer] *= bare[room] + held[room]
        held[nearer] *= bare[room]
    return bare[start] + held[start]


def _free_in(rows):
    """Tell of all settings without a lock of rooms that hang together.

    Call a guard a head of a room beside him where he is locked in his branch away from it. There is a
    lock just where some room has two heads (or a guard is in the only room). It is enough to look at
    heads who hang on their room: where one is nearer to the start than the room, all rooms that hang
    on him have heads, and the next one nearer has two, too, or there is none, and he is in the start.
    """
    start = min(rows)
    # Settings of a room and all that hang on it: without a guard there and with no head, or one;
    # with a guard there, and those of them in which he is a head of the next room nearer.
    none = {room: NO_GUARD for room in rows}
    one = {room: 0 for room in rows}
    held = {room: ONE_GUARD for room in rows}
    head = {room: ONE_GUARD for room in rows}
    for room, nearer in inward(rows, start):
        bare = none[room] + one[room]
        calm = bare + held[room] - head[room]
        one[nearer] = one[nearer] * calm + none[nearer] * head[room]
        none[nearer] *= calm
        held[nearer] *= bare
        head[nearer] *= one[room]
    return none[start] + one[start] + held[start] - head[start]
