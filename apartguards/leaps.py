"""Leaps from one setting to another one of as many guards, none of them more than there must be."""

from apartguards.settings import check_alike, check_leads, leapt


def leaps(tree, one, other):
    """Tell leaps from the one setting to the other: each guard goes once who isn't in a room of both."""
    check_alike(tree, one, other)
    going = {room: True for room in one if room not in other}
    # For each room to go into, the guards beside it, who must go first.
    barred = {room: [near for near in tree.beside(room) if near in going] for room in other if room not in one}
    moves = []
    while barred:
        left, entered = _next_leap(going, barred)
        moves.append((left, entered))
        del going[left]
        barred = {room: [near for near in barred[room] if near != left] for room in barred if room != entered}
    return moves


def check_leaps(tree, one, other, answer):
    """Tell how many leaps a list has that leads from the one to the other; refuse all else."""
    check_alike(tree, one, other)
    check_leads(tree, one, other, answer, leapt)
    return len(answer)


def _next_leap(going, barred):
    """Tell a leap of one of those going into a room that has nobody else of them beside it.

    There are as many rooms as guards, and fewer ways between them than rooms and guards together:
    so not every one of these rooms has two guards beside it.
    """
    found = [room for room in barred if len(barred[room]) < 2]
    guards = [*barred[found[0]], *going]
    return (guards[0], found[0])
