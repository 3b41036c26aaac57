"""Trees to try, and plain searches to hold the package's answers against.

Nothing here imports the package: a tree is a list of ways, and what is told of
it is found by going through all rooms, or all sets of rooms.
"""

import contextlib
import itertools
import random
import signal

ODD_THINGS = (
    None,
    True,
    False,
    "0",
    "",
    "01",
    b"\x00",
    [],
    [0],
    [0, 1],
    {},
    {0: 1},
    {0, 1},
    (),
    (0,),
    (0, 1, 2),
    ([0], [1]),
    int,
    len,
    -1,
    -60,
    60,
    61,
    10**30,
    10**5000,
)


def lane(rooms):
    return [(room, room + 1) for room in range(rooms - 1)]


def star(rooms):
    return [(0, room) for room in range(1, rooms)]


def comb(rooms):
    """A lane of the even rooms, each odd room beside the even one ahead of it."""
    return [(room - 1 if room % 2 else room - 2, room) for room in range(1, rooms)]


def drawn(rooms, seed):
    """A tree with its rooms, and its ways, in a drawn order."""
    draw = random.Random(seed)
    names = list(range(rooms))
    draw.shuffle(names)
    ways = []
    for at in range(1, rooms):
        one, other = names[at], names[draw.randrange(max(0, at - 4), at)]
        ways.append((min(one, other), max(one, other)))
    draw.shuffle(ways)
    return ways


def every_tree(rooms):
    """Every set of ways that makes a tree of so many rooms."""
    pairs = list(itertools.combinations(range(rooms), 2))
    return [list(ways) for ways in itertools.combinations(pairs, rooms - 1) if refusal_of_ways(list(ways)) is None]


def small_trees():
    trees = [ways for rooms in range(1, 5) for ways in every_tree(rooms)]
    for rooms in (5, 6, 7, 8):
        trees += [lane(rooms), star(rooms), comb(rooms)]
        trees += [drawn(rooms, seed) for seed in range(6)]
    return trees


def great_trees():
    return [lane(60), star(60), comb(60), drawn(60, 1), drawn(60, 2)]


def refusal_of_ways(ways):
    """The place that NoTree tells, or None of a tree."""
    if type(ways) is not list or len(ways) > 59:
        return -1
    rooms = range(len(ways) + 1)
    for at, way in enumerate(ways):
        if type(way) is not tuple or len(way) != 2 or [type(room) for room in way] != [int, int]:
            return at
        one, other = way
        if one not in rooms or other not in rooms or one >= other or other in hanging(ways[:at], one, []):
            return at
    return None


def near(ways, room):
    return sorted([b for a, b in ways if a == room] + [a for a, b in ways if b == room])


def hanging(ways, room, without):
    """All rooms that hang together with a room when others are left out."""
    found = {room}
    while True:
        more = {other for one in found for other in near(ways, one) if other not in without} | found
        if more == found:
            return sorted(found)
        found = more


def paths(ways, one, other):
    """All ways to go from the one room to the other without a room twice."""
    whole, open_paths = [], [[one]]
    while open_paths:
        path = open_paths.pop()
        if path[-1] == other:
            whole.append(path)
        open_paths += [path + [room] for room in near(ways, path[-1]) if room not in path]
    return whole


def pieces(ways, without):
    left = [room for room in range(len(ways) + 1) if room not in without]
    lists = [hanging(ways, room, without) for room in left]
    return sorted([list(rooms) for rooms in {tuple(rooms) for rooms in lists}])


def apart(ways, rooms):
    """Whether no two of these rooms are the same, or side by side."""
    pairs = list(itertools.combinations(rooms, 2))
    return not [pair for pair in pairs if pair[0] == pair[1] or pair in ways or pair[::-1] in ways]


def settings(ways, many=None):
    """All settings, or those of so many guards, out of all sets of rooms."""
    rooms = range(len(ways) + 1)
    numbers = [*rooms, len(ways) + 1] if many is None else [many]
    sets = [chosen for number in numbers for chosen in itertools.combinations(rooms, number)]
    return [chosen for chosen in sets if apart(ways, chosen)]


def behind(setting, move):
    room, other = move
    return tuple(sorted([other if guard == room else guard for guard in setting]))


def leaps(ways, setting):
    rooms = range(len(ways) + 1)
    moves = [(room, other) for room in rooms for other in rooms if room in setting and room != other]
    return [move for move in moves if apart(ways, behind(setting, move))]


def slides(ways, setting):
    return [move for move in leaps(ways, setting) if move in ways or move[::-1] in ways]


def reached(ways, setting):
    """All settings that come of one, found over and over until no more come."""
    found = {setting}
    while True:
        more = {behind(one, move) for one in found for move in slides(ways, one)} | found
        if more == found:
            return sorted(found)
        found = more


@contextlib.contextmanager
def within(seconds):
    """Fail, and do not hang, where something goes through far too many settings."""

    def late(_signal, _frame):
        raise AssertionError(f"not done within {seconds} seconds")

    kept = signal.signal(signal.SIGALRM, late)
    signal.alarm(seconds)
    try:
        yield
    finally:
        signal.alarm(0)
        signal.signal(signal.SIGALRM, kept)
