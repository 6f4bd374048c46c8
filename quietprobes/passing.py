"""What a row that is passed takes from contents, what it does to a world, and what it reports [10, 16]."""

from quietprobes.blocks import OPENING
from quietprobes.rows import deeds_of
from quietprobes.settings import Setting

# The rows whose events tell what their deeds returned, and those that are events themselves.
ANSWERED = ("take", "roll", "get", "peek", "size", "keys", "look", "glance", "read", "watch", "tell")
REPORTED = ("say", "stop")


class Supply:
    """What comes from contents during a run, which uses up one member after another."""

    def __init__(self, contents):
        self._answers = contents.answers
        self._lengths = contents.lengths
        self._loads = contents.loads
        # How many members of each were used up.
        self._answered = 0
        self._fetched = 0
        self._loaded = 0

    def next_answer(self):
        """The next answer, False when there are none left."""
        self._answered += 1
        return _member(self._answers, self._answered, False)

    def next_length(self):
        """The next length, 0 when there are none left."""
        self._fetched += 1
        return _member(self._lengths, self._fetched, 0)

    def next_load(self):
        """The next load, () when there are none left."""
        self._loaded += 1
        return _member(self._loads, self._loaded, ())


def _member(members, place, otherwise):
    """The member at a place, counted from 1, or what stands for it behind the last one."""
    return members[place - 1] if place <= len(members) else otherwise


def pass_row(world, supply, row):
    """Do what a row of the program itself does, and return what its deed or test returned."""
    if row[0] in OPENING and row[1] == "ask":
        return supply.next_answer()
    deeds = deeds_of(row)
    if not deeds:
        return None
    deed = deeds[0]
    if deed[0] == "fetch":
        deed = (*deed, supply.next_length())
    elif deed[0] == "load":
        deed = (*deed, supply.next_load())
    return world.do(deed)


def event_of(row, answer):
    """The event of a row of the program itself, whose deed or test returned this; None if it has none."""
    if row[0] in OPENING:
        return (*row[1:], answer)
    if row[0] in ANSWERED:
        return (*row, answer)
    return row if row[0] in REPORTED else None


def acts(gate, times):
    """Whether a probe with this gate acts when it was reached so many times before."""
    if gate == "first":
        return times == 0
    if gate == "later":
        return times > 0
    return gate == "always" or times % 2 == 1


def probe_deeds(row, mode):
    """The deeds of a probe that acts in a mode; those in a lesser mode are the first ones of these."""
    word, name, _, args, rest = row
    if mode == Setting.OUT:
        return ()
    looks = args
    if word == "assert":
        looks = (*args, rest)
    elif mode == Setting.ON:
        looks = (*args, *rest)
    return tuple([(*look, name) if look[0] == "mark" else look for look in looks])
