"""Joint states of two runs that have not parted, and their moves [19, 20]."""

from quietprobes.checks import is_int
from quietprobes.errors import BadPair
from quietprobes.nesting import fitting_base
from quietprobes.rows import is_probe
from quietprobes.serials import is_serial, with_numbers
from quietprobes.settings import Setting
from quietprobes.twins import AHEAD, ENDED, EVEN, outcomes

# The entry of a thing of each kind but a feed in the first pair.
AT_FIRST = {
    "dice": "even",
    "table": ((), ()),
    "source": 0,
    "field": (None, None),
    "flag": (False, False),
    "slot": (None, None),
}


def first_pair(program):
    """The pair of two runs that have not passed a row."""
    place = program.first_place()
    if not place:
        return (), ()
    entries = []
    feeds = 0
    for thing in program.things:
        if thing.kind == "feed":
            # Each feed is bound to an empty row of its own.
            entries.append((feeds, ENDED))
            feeds += 1
        else:
            entries.append(AT_FIRST[thing.kind])
    return place, (*entries, ())


def moves(program, pair, setting, *, base=None):
    """The moves of a pair, as tuples of choices, place and state."""
    lower = fitting_base(program, setting, base)
    if not is_pair(program, pair, setting):
        raise BadPair(pair)
    found = []
    for choices, twins in outcomes(program, pair, setting, lower):
        if twins.has_parted:
            found.append((choices, None, None))
        else:
            found.append((choices, twins.place, twins.told_state()))
    return found


def is_pair(program, pair, setting):
    """Whether any object is a pair of the program, in the normal form."""
    if not isinstance(pair, tuple) or len(pair) != 2:
        return False
    place, state = pair
    if not program.is_place(place) or not isinstance(state, tuple):
        return False
    if not place:
        return not state
    if len(state) != len(program.things) + 1:
        return False
    feeds = [entry for thing, entry in zip(program.things, state) if thing.kind == "feed"]
    if not _are_feeds(feeds) or not _are_gates(program, setting, state[-1]):
        return False
    if not all([_is_entry(program, thing, entry) for thing, entry in zip(program.things, state)]):
        return False
    return with_numbers(program.things, state) == state


def uneven(program, state):
    """The names of the things that are ahead, or whose two contents are unlike."""
    return [thing.name for thing, entry in zip(program.things, state) if _is_uneven(thing.kind, entry)]


def normal(program, state):
    """The normal form of what is a joint state but for the numbers of its serials."""
    return with_numbers(program.things, state)


def _is_uneven(kind, entry):
    """Whether a thing of this kind with this entry is uneven."""
    if kind == "feed":
        return entry[1] == AHEAD
    if kind == "dice":
        return entry == AHEAD
    return kind != "source" and entry[0] != entry[1]


def _are_feeds(entries):
    """Whether any objects are the entries of all feeds, in their order."""
    statuses = []
    for entry in entries:
        if not isinstance(entry, tuple) or len(entry) != 2:
            return False
        row, status = entry
        if not is_int(row) or not 0 <= row <= len(statuses) or status not in (EVEN, ENDED, AHEAD):
            return False
        if row == len(statuses):
            statuses.append(status)
        if statuses[row] != status:
            return False
    return True


def _are_gates(program, setting, gates):
    """Whether any object is a tuple of probes that are not out and whose times count, in the order of their rows."""
    gated = [row[1] for row in program.rows if is_probe(row) and row[2] != "always" and setting[row[1]] != Setting.OUT]
    return isinstance(gates, tuple) and gates == tuple([name for name in gated if name in gates])


def _is_entry(program, thing, entry):
    """Whether any object is an entry of a thing; of a feed it is said elsewhere."""
    if thing.kind == "feed":
        return True
    if thing.kind == "dice":
        return entry in (EVEN, AHEAD)
    if thing.kind == "source":
        return _is_number(entry)
    if not isinstance(entry, tuple) or len(entry) != 2:
        return False
    return all([_is_content(program, thing, content) for content in entry])


def _is_content(program, thing, content):
    """Whether any object is a content of a table, field, flag or slot in one of two runs."""
    if thing.kind == "table":
        return _is_table(thing.parts, content)
    if thing.kind == "field":
        return content is None or _is_number(content)
    if thing.kind == "flag":
        return isinstance(content, bool)
    return content is None or is_serial(content) or content in program


def _is_table(keys, content):
    """Whether any object is a tuple of entries of a table with these keys."""
    if not isinstance(content, tuple):
        return False
    met = []
    for entry in content:
        if not isinstance(entry, tuple) or len(entry) != 2:
            return False
        key, value = entry
        if key not in keys or key in met or not _is_number(value):
            return False
        met.append(key)
    return True


def _is_number(value):
    """Whether any object is 0 or a serial."""
    return is_int(value) and value >= 0
