"""Plain searches for steps, numbers and the most guards, and plain looks at answers.

Nothing here imports the package: a tree is a list of ways. Each place_of tells the
place (at) at which an answer must be refused, or None of a right answer.
"""

import functools
from math import comb

from tests import papers, plain


def steps_from(one, settings, next_to):
    """For each setting how many steps lead to it at the least; next_to tells which are one step apart."""
    far, todo = {one: 0}, [one]
    for setting in todo:
        for other in settings:
            if other not in far and next_to(setting, other):
                far[other] = far[setting] + 1
                todo.append(other)
    return far


def a_leap_apart(one, other):
    return len(one) == len(other) and len(set(one) - set(other)) == 1


def a_slide_apart(ways):
    def next_to(one, other):
        if not a_leap_apart(one, other):
            return False
        rooms = tuple(sorted(set(one) ^ set(other)))
        return rooms in ways

    return next_to


@functools.cache
def sides(ways):
    """For each way, rising, the rooms on the side where its second room is."""
    return [(way, set(plain.hanging(ways, way[1], [way[0]]))) for way in sorted(ways)]


def needs(ways, one, other):
    """By how many the guards differ on one side of each way."""
    rows = sides(tuple(ways))
    return [(way, abs(len(side & set(one)) - len(side & set(other)))) for way, side in rows]


def gone(ways, moves):
    """How often slides go each way."""
    return [(way, len([move for move in moves if tuple(sorted(move)) == way])) for way in sorted(ways)]


def is_lane(ways):
    return least_fork(ways) is None


def least_fork(ways):
    """The least room with three ways or more."""
    forks = [room for room in papers.rooms_of(ways) if len(plain.near(ways, room)) > 2]
    return forks[0] if forks else None


def numbers(ways, settings):
    """How many of these settings there are of 0, 1, 2 .. guards, up to two more than there are rooms."""
    return [len([one for one in settings if len(one) == many]) for many in range(len(ways) + 4)]


def of_lane(rooms, many):
    """How many settings of so many guards a lane of so many rooms has."""
    return comb(rooms - many + 1, many) if many <= rooms + 1 else 0


def of_star(rooms, many):
    """The same of a star: one guard in the middle, or some in the leaves."""
    return comb(rooms - 1, many) + (many == 1)


def of_comb(teeth, many):
    """The same of a comb: guards in the lane, others in the teeth of the rooms of the lane that are left."""
    return sum(of_lane(teeth, j) * comb(teeth - j, many - j) for j in range(min(teeth, many) + 1))


def greatest(ways):
    """All settings of as many guards as can be."""
    settings = plain.settings(ways)
    many = max(len(one) for one in settings)
    return [one for one in settings if len(one) == many]


def word_of(room, settings):
    """Whether always, never or only some of these settings have a room."""
    having = len([one for one in settings if room in one])
    return "always" if having == len(settings) else "some" if having else "never"


def is_setting(ways, thing):
    if type(thing) is not tuple or [room for room in thing if type(room) is not int]:
        return False
    if [room for room in thing if room not in papers.rooms_of(ways)] or list(thing) != sorted(set(thing)):
        return False
    return not [way for way in ways if way[0] in thing and way[1] in thing]


def wrong_way(ways, things, left_out=()):
    """The number of the first thing that is no way, or has a room that is left out or in a way ahead, or None."""
    used = set(left_out)
    for at, thing in enumerate(things):
        if type(thing) is not tuple or [type(room) for room in thing] != [int, int] or thing not in ways:
            return at
        if used & set(thing):
            return at
        used |= set(thing)
    return None


def place_of_most(ways, answer):
    if type(answer) is not tuple or len(answer) != 2 or type(answer[1]) is not list:
        return -1
    setting, lot = answer
    if not is_setting(ways, setting):
        return -1
    wrong = wrong_way(ways, lot)
    if wrong is not None:
        return wrong
    return None if len(setting) + len(lot) == len(ways) + 1 else len(lot)


def place_of_about(ways, room, answer):
    if type(answer) is not tuple or not answer or type(answer[0]) is not str:
        return 0
    word, *things = answer
    if len(things) != {"always": 2, "never": 3, "some": 3}.get(word):
        return 0
    lot, left_out = things.pop(), [room] if word == "always" else []
    if word == "never":
        left_out = [things.pop(0)]
        if type(left_out[0]) is not int or left_out[0] not in plain.near(ways, room):
            return 1
    last = len(answer) - 1
    for at, setting in enumerate(things, last - len(things)):
        if not is_setting(ways, setting) or word == "some" and (room in setting) != (at == 1):
            return at
    if type(lot) is not list or wrong_way(ways, lot, left_out) is not None:
        return last
    return last if [one for one in things if len(one) + len(lot) != len(ways) + 1] else None
