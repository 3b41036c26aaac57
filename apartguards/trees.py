"""Trees: rooms that hang together by ways, with one way to go from each to each."""

from apartguards.errors import NoRoom, NoTree

MOST_WAYS = 59


def is_whole(thing):
    """Tell whether a thing is a whole number: an int that is no truth."""
    return isinstance(thing, int) and not isinstance(thing, bool)


def is_room(tree, thing):
    """Tell whether a thing, of whatever kind, is a room of the tree."""
    return is_whole(thing) and 0 <= thing < len(tree)


def is_way(thing, many):
    """Tell whether a thing, of whatever kind, is a way of two of so many rooms."""
    if not isinstance(thing, tuple) or len(thing) != 2:
        return False
    one, other = thing
    return is_whole(one) and is_whole(other) and 0 <= one < other < many


def _check_ways(ways):
    """Refuse what is no list of the ways of a tree."""
    if not isinstance(ways, list) or len(ways) > MOST_WAYS:
        raise NoTree(-1)
    many = len(ways) + 1
    # Rooms that hang together by the ways ahead are in the same lot.
    lots = list(range(many))
    for at, way in enumerate(ways):
        if not is_way(way, many) or lots[way[0]] == lots[way[1]]:
            raise NoTree(at)
        kept, lost = lots[way[0]], lots[way[1]]
        lots = [kept if lot == lost else lot for lot in lots]


def _rows_beside(ways):
    """Tell for each room the rooms beside it, rising."""
    rows = [[] for _ in range(len(ways) + 1)]
    for one, other in ways:
        rows[one].append(other)
        rows[other].append(one)
    return [sorted(row) for row in rows]


def hung_from(rows, start):
    """Tell for each room that hangs together with one the next one nearer to it; the one itself has itself.

    Rows tell for each room those beside it. Each room stands in the dict behind the one that it has.
    """
    nearer = {start: start}
    todo = [start]
    while todo:
        room = todo.pop()
        for near in rows[room]:
            if near not in nearer:
                nearer[near] = room
                todo.append(near)
    return nearer


class Tree:
    """Rooms 0, 1, .. that hang together by ways: one room more than there are ways."""

    def __init__(self, ways):
        _check_ways(ways)
        self._ways = list(ways)
        self._rows = _rows_beside(ways)

    def ways(self):
        """Tell the list of ways as it was told."""
        return list(self._ways)

    def __len__(self):
        return len(self._rows)

    def __eq__(self, other):
        # The rows are the same for every order of the same ways.
        return isinstance(other, Tree) and self._rows == other._rows

    def beside(self, room):
        """Tell the rooms at the other ends of a room's ways, rising."""
        self._check_rooms([room])
        return list(self._rows[room])

    def branch(self, room, *, away):
        """Tell the rooms that hang together with a room when one beside it is left out, rising."""
        self._check_rooms([room, away])
        if away not in self._rows[room]:
            raise NoRoom(away)
        return self._hanging(room, {away: True})

    def between(self, one, other):
        """Tell the rooms that one goes through from the one to the other, both among them."""
        self._check_rooms([one, other])
        nearer = hung_from(self._rows, other)
        rooms = [one]
        while rooms[-1] != other:
            rooms.append(nearer[rooms[-1]])
        return rooms

    def pieces(self, without):
        """Tell the lists of the rooms that hang together when some are left out."""
        # What is no list and no tuple holds no rooms, and is none: it is itself refused.
        if not isinstance(without, (list, tuple)):
            raise NoRoom(without)
        self._check_rooms(without)
        done = {room: True for room in without}
        pieces = []
        for room in range(len(self._rows)):
            if room not in done:
                piece = self._hanging(room, done)
                pieces.append(piece)
                for inside in piece:
                    done[inside] = True
        return pieces

    def with_room(self, room):
        """Tell the tree with one room more, of the next number, beside a room."""
        self._check_rooms([room])
        # Of sixty rooms these are too many ways, and the new tree is refused with -1.
        return Tree([*self._ways, (room, len(self._rows))])

    def _check_rooms(self, things):
        """Refuse the first thing that is no room."""
        for thing in things:
            if not is_room(self, thing):
                raise NoRoom(thing)

    def _hanging(self, start, without):
        """Tell the rooms, rising, that hang together with one when those of a dict are left out."""
        found = {start: True}
        todo = [start]
        while todo:
            room = todo.pop()
            for near in self._rows[room]:
                if near not in found and near not in without:
                    found[near] = True
                    todo.append(near)
        return sorted(found)
