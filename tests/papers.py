"""Plain searches for locks, bars and what comes of what, and plain looks at answers; greatest.py has more.

Nothing here imports the package: a tree is a list of ways. Each place_of tells the
place (at) at which an answer must be refused, or None of a right answer.
"""

import itertools
import random

from tests import plain


def rooms_of(ways):
    return range(len(ways) + 1)


def inside(ways, rooms):
    """The ways between some rooms."""
    return [way for way in ways if way[0] in rooms and way[1] in rooms]


def is_lock(ways, guards, but=None):
    """Whether for each guard each room beside it (but one) has another one beside it."""
    return all(
        any(other in guards and other != guard for other in plain.near(ways, room))
        for guard in guards
        for room in plain.near(ways, guard)
        if room != but
    )


def locks(ways, setting):
    """All locks, out of all sets of guards."""
    sets = [some for many in range(len(setting) + 1) for some in itertools.combinations(setting, many)]
    return [some for some in sets if is_lock(ways, some)]


def lock(ways, setting):
    """The greatest lock: a guard who can't be in one goes, over and over."""
    left = list(setting)
    for _ in setting:
        left = [guard for guard in left if not ways_out(ways, left, guard)]
    return tuple(left)


def ways_out(ways, left, guard):
    """The rooms beside a guard that have no other one of these guards beside them."""
    return [
        room
        for room in plain.near(ways, guard)
        if not [other for other in plain.near(ways, room) if other in left and other != guard]
    ]


def branch_lock(ways, setting, room, away):
    rooms = plain.hanging(ways, room, [away])
    return lock(inside(ways, rooms), [guard for guard in setting if guard in rooms])


def pieces_between(ways, guards):
    """The rooms that aren't a lock's and not beside one, each lot made of two that a way ties."""
    without = [*guards, *[room for guard in guards for room in plain.near(ways, guard)]]
    lots = {room: [room] for room in rooms_of(ways) if room not in without}
    for one, other in inside(ways, list(lots)):
        whole = sorted(lots[one] + lots[other])
        lots.update({room: whole for room in whole})
    return [lot for room, lot in lots.items() if lot[0] == room]


def numbers(pieces, setting):
    return tuple([len([room for room in piece if room in setting]) for piece in pieces])


def key(ways, setting):
    guards = lock(ways, setting)
    return guards, numbers(pieces_between(ways, guards), setting)


def can_leap(ways, setting, move):
    """Whether a thing is a leap that can be done; the setting is known to be one."""
    if type(move) is not tuple or len(move) != 2 or [type(room) for room in move] != [int, int]:
        return False
    room, other = move
    if room not in setting or other in setting or other not in rooms_of(ways):
        return False
    return not [near for near in plain.near(ways, other) if near in setting and near != room]


def can_slide(ways, setting, move):
    """Whether it is one into a room beside the guard's own."""
    return can_leap(ways, setting, move) and move[1] in plain.near(ways, move[0])


def slid(ways, setting, moves, can_move=can_slide):
    """The setting behind slides, done one by one, and the number of the first that can't be done, or None."""
    for at, move in enumerate(moves):
        if not can_move(ways, setting, move):
            return setting, at
        setting = plain.behind(setting, move)
    return setting, None


def leapt(ways, setting, moves):
    """The same of leaps."""
    return slid(ways, setting, moves, can_leap)


def is_guard(setting, thing):
    return type(thing) is int and thing in setting


def place_of_peel(ways, setting, answer):
    if type(answer) is not list:
        return -1
    left = list(setting)
    for at, thing in enumerate(answer):
        if type(thing) is not tuple or len(thing) != 2 or not is_guard(left, thing[0]):
            return at
        guard, room = thing
        if type(room) is not int or room not in ways_out(ways, left, guard):
            return at
        left.remove(guard)
    return len(answer) if [guard for guard in left if ways_out(ways, left, guard)] else None


def place_of_lock(ways, setting, guards):
    if type(guards) is not tuple:
        return -1
    for at, thing in enumerate(guards):
        if not is_guard(setting, thing) or thing in guards[:at]:
            return at
    for at, guard in enumerate(guards):
        if ways_out(ways, guards, guard):
            return len(guards) + at
    return None


def place_of_come(ways, one, other, answer):
    if type(answer) is not tuple or not answer:
        return -1
    word, *rest = answer
    if word == "walk" and [type(thing) for thing in rest] == [list]:
        last, wrong = slid(ways, one, rest[0])
        return wrong if wrong is not None else None if last == other else len(rest[0])
    if word == "lock" and [type(thing) for thing in rest] == [int, tuple] and rest[0] in (0, 1):
        setting, against = (one, other) if rest[0] == 0 else (other, one)
        wrong = place_of_lock(ways, setting, rest[1])
        return wrong if wrong is not None else None if set(rest[1]) - set(against) else 2 * len(rest[1])
    if word == "number" and [type(thing) for thing in rest] == [tuple, list]:
        return place_of_number(ways, one, other, *rest)
    return -1


def place_of_leaps(ways, one, other, answer):
    if type(answer) is not list:
        return -1
    last, wrong = leapt(ways, one, answer)
    return wrong if wrong is not None else None if last == other else len(answer)


def place_of_number(ways, one, other, guards, piece):
    wrong = place_of_lock(ways, tuple(sorted(set(one) & set(other))), guards)
    if wrong is not None:
        return wrong
    if [room for room in piece if type(room) is not int] or piece not in pieces_between(ways, guards):
        return 2 * len(guards)
    return None if numbers([piece], one) != numbers([piece], other) else 2 * len(guards) + 1


def place_of_out(ways, setting, guard, answer):
    beside = plain.near(ways, guard)
    if not beside:
        return None if answer is None else -1
    if type(answer) is not tuple or len(answer) != 2:
        return -1
    taken, bars = answer
    if not are_guards(setting, taken) or guard in taken:
        return 0
    if guard in lock(ways, [one for one in setting if one not in taken]):
        return 0
    if type(bars) is not list or len(bars) != len(beside):
        return 1
    for at, room in enumerate(beside):
        if not are_bars(ways, setting, guard, room, bars[at], len(taken)):
            return 2 + at
    return None


def are_guards(setting, things):
    if type(things) is not tuple or [thing for thing in things if not is_guard(setting, thing)]:
        return False
    return len(set(things)) == len(things)


def are_bars(ways, setting, guard, room, bars, many):
    if type(bars) is not list or len(bars) != many:
        return False
    heads = [head_of(ways, setting, guard, room, bar) for bar in bars]
    return None not in heads and len(set(heads)) == len(heads)


def head_of(ways, setting, guard, room, bar):
    """The head of a bar, its guards in any order, or None of what is no bar."""
    if not are_guards(setting, bar):
        return None
    for head in plain.near(ways, room):
        if head in bar and head != guard and set(bar) <= set(plain.hanging(ways, head, [room])):
            return head if is_lock(ways, bar, room) else None
    return None


def bars_of(ways, setting, guard, room):
    """All bars, out of all sets of guards."""
    sets = [some for many in range(len(setting) + 1) for some in itertools.combinations(setting, many)]
    return [some for some in sets if head_of(ways, setting, guard, room, some) is not None]


def fewest(ways, setting, guard):
    """How many other guards must be taken out, out of all sets of them; None in a tree of one room."""
    others = [one for one in setting if one != guard]
    for many in range(len(others) + 1):
        for taken in itertools.combinations(others, many):
            if guard not in lock(ways, [one for one in setting if one not in taken]):
                return many
    return None


def drawn_setting(ways, many, seed):
    """At most so many guards, in drawn rooms."""
    draw = random.Random(seed)
    rooms = list(rooms_of(ways))
    draw.shuffle(rooms)
    guards = []
    for room in rooms:
        if len(guards) < many and not [near for near in plain.near(ways, room) if near in guards]:
            guards.append(room)
    return tuple(sorted(guards))


def shaken(ways, setting, steps, seed):
    """A setting that comes of one by drawn slides."""
    draw = random.Random(seed)
    for _ in range(steps if setting else 0):
        room = draw.choice(setting)
        move = (room, draw.choice(plain.near(ways, room) or [room]))
        if can_slide(ways, setting, move):
            setting = plain.behind(setting, move)
    return setting


def leaves(ways):
    return tuple([room for room in rooms_of(ways) if len(plain.near(ways, room)) == 1])
