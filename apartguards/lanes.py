"""How often each way must be gone between settings of as many guards, and slides on lanes that go no way oftener."""

from apartguards.errors import NoLane
from apartguards.settings import check_alike
from apartguards.within import all_rooms, inward, rows_within


def needs(tree, one, other):
    """Tell for each way, rising, how often it must be gone: by how many the guards on a side of it differ."""
    check_alike(tree, one, other)
    rows = rows_within(tree, all_rooms(tree))
    # By how many guards the one has more in each room, then also in those that hang on it.
    more = {room: int(room in one) - int(room in other) for room in rows}
    found = []
    for room, nearer in inward(rows, 0):
        more[nearer] += more[room]
        found.append(((min(room, nearer), max(room, nearer)), abs(more[room])))
    return sorted(found)


def least(tree, one, other):
    """Tell how many slides there are at the least from the one setting to the other, by what each way needs."""
    return sum([many for _, many in needs(tree, one, other)])


def lane_slides(tree, one, other):
    """Tell slides on a lane from the one setting to the other, no more than there must be."""
    check_alike(tree, one, other)
    lane = _lane_of(tree)
    pairs = list(zip([room for room in lane if room in one], [room for room in lane if room in other]))
    places = {room: at for at, room in enumerate(lane)}
    moves = []
    # The guards keep their order. Who goes towards the lane's first end goes behind those ahead of him there,
    # then who goes the other way ahead of those behind him: so whoever is next is at his goal, or still farther.
    for start, goal in pairs:
        if places[goal] < places[start]:
            moves.extend(_steps(lane[places[goal] : places[start] + 1][::-1]))
    for start, goal in pairs[::-1]:
        if places[goal] > places[start]:
            moves.extend(_steps(lane[places[start] : places[goal] + 1]))
    return moves


def _lane_of(tree):
    """Tell the rooms of a lane from end to end; refuse what is none."""
    many = [len(tree.beside(room)) for room in all_rooms(tree)]
    for room in all_rooms(tree):
        if many[room] > 2:
            raise NoLane(room)
    ends = [room for room in all_rooms(tree) if many[room] < 2]
    return tree.between(ends[0], ends[-1])


def _steps(rooms):
    """Tell the slides of a guard who goes through these rooms."""
    return list(zip(rooms, rooms[1:]))
