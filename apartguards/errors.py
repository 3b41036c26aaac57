"""The refusals: each one stands straight under GuardError and keeps what it is made of."""


class GuardError(ValueError):
    """Whatever this package refuses."""


class NoTree(GuardError):
    """These ways make no tree: at is the number of the first wrong one, or -1."""

    def __init__(self, at):
        self.at = at


class NoRoom(GuardError):
    """This is no room of the tree, or not the one that is needed here."""

    def __init__(self, room):
        self.room = room


class NoSetting(GuardError):
    """This is no setting of the tree: at is the number of the first wrong room, or -1."""

    def __init__(self, at):
        self.at = at


class NoSlide(GuardError):
    """A move can't be done: at is its number, or -1 where there is no list of moves."""

    def __init__(self, at):
        self.at = at


class NoPaper(GuardError):
    """An answer doesn't show what it should: at is the place where it fails."""

    def __init__(self, at):
        self.at = at


class Locked(GuardError):
    """A guard can never move: lock is the greatest lock, and the guard is in it."""

    def __init__(self, lock):
        self.lock = lock


class Unlike(GuardError):
    """Two settings have unlike numbers of guards: many and more."""

    def __init__(self, many, more):
        self.many = many
        self.more = more


class TooMany(GuardError):
    """There are more settings than were asked for: many is how many were."""

    def __init__(self, many):
        self.many = many


class NoLane(GuardError):
    """The tree is no lane: room is the least one with three ways or more."""

    def __init__(self, room):
        self.room = room
