"""Worlds of things that do deeds [7], and who watches them [8]."""

from quietprobes.checks import check_unlike
from quietprobes.deeds import check_deed, is_deed
from quietprobes.errors import BadDeed, NoThing, TooMany, Watched
from quietprobes.states import State, done

MOST_THINGS = 8


class World:
    """Some things with their contents."""

    def __init__(self, *things):
        check_unlike([thing.name for thing in things])
        _check_fields(things)
        if len(things) > MOST_THINGS:
            raise TooMany(MOST_THINGS)
        self.things = things
        self._state = State(things)
        # The deeds done since the world is watched; None while it is not.
        self._log = None

    def do(self, deed):
        """Do a deed, and return what it returns."""
        if not is_deed(deed):
            raise BadDeed(deed)
        check_deed(self._state.by_name, deed)
        answer = done(self._state, deed)
        if self._log is not None:
            self._log.append(deed)
        return answer

    def duplicate(self):
        """An equal world of its own, which is not watched."""
        twin = World(*self.things)
        twin._state = self._state.duplicate()
        return twin

    @property
    def is_watched(self):
        """Whether a call of watched is going on."""
        return self._log is not None

    def __getitem__(self, name):
        if name not in self:
            raise NoThing(name)
        return self._state.contents[name]

    def __iter__(self):
        raise TypeError("a world is not iterated over")

    def __contains__(self, name):
        return isinstance(name, str) and name in self._state.contents

    def __xor__(self, other):
        return [thing.name for thing in self.things if self[thing.name] != other[thing.name]]

    def __eq__(self, other):
        return isinstance(other, World) and self.things == other.things and self._state == other._state


def _check_fields(things):
    """Raise NoThing of what the first field is over that does not stand behind it."""
    for at, thing in enumerate(things):
        below = [other.name for other in things[:at] if other.kind in ("source", "field")]
        if thing.kind == "field" and thing.parts[0] not in below:
            raise NoThing(thing.parts[0])


def watched(world, deed):
    """Call deed with the world; return the deeds that it did and the names of the things that it changed."""
    if world.is_watched:
        raise Watched()
    before = world.duplicate()
    deeds = []
    world._log = deeds
    try:
        deed(world)
    finally:
        world._log = None
    return deeds, world ^ before


def unseen(world, deed):
    """Call deed with the world and return what it returns; the world is then as it was before."""
    state = world._state
    log = world._log
    # The call gets copies, so that what is put back was not changed meanwhile.
    world._state = state.duplicate()
    if log is not None:
        world._log = list(log)
    try:
        return deed(world)
    finally:
        world._state = state
        world._log = log
