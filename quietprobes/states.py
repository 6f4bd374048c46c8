"""What a world holds [5, 7], and how each deed changes it [6]."""

# The content of a thing of each kind before any deed.
AT_FIRST = {
    "feed": (0, 0, 0),
    "dice": (0, 0),
    "table": (),
    "source": 0,
    "field": None,
    "flag": False,
    "slot": None,
}


class State:
    """The contents of some things, and how many fetchings, seedings and serials there were so far."""

    def __init__(self, things):
        self.by_name = {thing.name: thing for thing in things}
        self.contents = {thing.name: AT_FIRST[thing.kind] for thing in things}
        self.fetchings = 0
        self.seedings = 0
        self.serials = 0

    def __eq__(self, other):
        return (isinstance(other, State) and self.contents == other.contents
                and self.fetchings == other.fetchings and self.seedings == other.seedings
                and self.serials == other.serials)

    def duplicate(self):
        """An equal state of its own."""
        twin = State(list(self.by_name.values()))
        twin.contents = dict(self.contents)
        twin.fetchings = self.fetchings
        twin.seedings = self.seedings
        twin.serials = self.serials
        return twin

    def new_serial(self):
        """Use up a serial, and return it."""
        self.serials += 1
        return self.serials

    def take_until(self, name, taken):
        """Let so many items be taken from the row to which a feed is bound."""
        fetching, _, length = self.contents[name]
        # A fetching begins one row alone, so feeds with the same fetching share their row.
        for other, thing in self.by_name.items():
            if thing.kind == "feed" and self.contents[other][0] == fetching:
                self.contents[other] = (fetching, taken, length)


def _take(state, feed):
    fetching, taken, length = state.contents[feed]
    if taken == length:
        return None
    state.take_until(feed, taken + 1)
    return fetching, taken


def _skip(state, feed):
    _take(state, feed)


def _drain(state, feed):
    length = state.contents[feed][2]
    state.take_until(feed, length)


def _fetch(state, feed, length):
    state.fetchings += 1
    state.contents[feed] = (state.fetchings, 0, length)


def _bind(state, feed, other):
    state.contents[feed] = state.contents[other]


def _roll(state, dice):
    seeding, rolled = state.contents[dice]
    state.contents[dice] = (seeding, rolled + 1)
    return seeding, rolled


def _seed(state, dice):
    state.seedings += 1
    state.contents[dice] = (state.seedings, 0)


def _get(state, table, key):
    entries = dict(state.contents[table])
    value = entries.setdefault(key, 0)
    state.contents[table] = tuple(entries.items())
    return value


def _peek(state, table, key):
    return dict(state.contents[table]).get(key)


def _has(state, table, key):
    return key in dict(state.contents[table])


def _put(state, table, key):
    entries = dict(state.contents[table])
    entries[key] = state.new_serial()
    state.contents[table] = tuple(entries.items())


def _fill(state, table, key):
    # A serial is used up also where there is an entry already.
    serial = state.new_serial()
    entries = dict(state.contents[table])
    entries.setdefault(key, serial)
    state.contents[table] = tuple(entries.items())


def _drop(state, table, key):
    entries = dict(state.contents[table])
    entries.pop(key, None)
    state.contents[table] = tuple(entries.items())


def _size(state, table):
    return len(state.contents[table])


def _keys(state, table):
    return tuple([key for key, _ in state.contents[table]])


def _load(state, table, keys):
    entries = []
    for key in state.by_name[table].parts:
        if key in keys:
            entries.append((key, state.new_serial()))
    state.contents[table] = tuple(entries)


def _wipe(state, table):
    state.contents[table] = ()


def _change(state, source):
    state.contents[source] = state.new_serial()


def _look(state, field):
    # A source is never None, so this ends at the source at the latest.
    if state.contents[field] is None:
        over = state.by_name[field].parts[0]
        state.contents[field] = _look(state, over)
    return state.contents[field]


def _renew(state, field):
    state.contents[field] = None


def _lift(state, flag):
    state.contents[flag] = True


def _read(state, flag):
    lifted = state.contents[flag]
    state.contents[flag] = False
    return lifted


def _keep(state, slot):
    state.contents[slot] = state.new_serial()


def _copy(state, slot, other):
    state.contents[slot] = state.contents[other]


def _bound(state, slot):
    return state.contents[slot] is not None


def _mark(state, slot, probe):
    state.contents[slot] = probe


def _value(state, name):
    return state.contents[name]


def _spy(state, name):
    pass


ACTIONS = {
    "take": _take,
    "skip": _skip,
    "drain": _drain,
    "fetch": _fetch,
    "bind": _bind,
    "roll": _roll,
    "seed": _seed,
    "get": _get,
    "peek": _peek,
    "has": _has,
    "put": _put,
    "fill": _fill,
    "drop": _drop,
    "size": _size,
    "keys": _keys,
    "load": _load,
    "wipe": _wipe,
    "change": _change,
    "look": _look,
    "glance": _value,
    "renew": _renew,
    "lift": _lift,
    "read": _read,
    "watch": _value,
    "keep": _keep,
    "copy": _copy,
    "tell": _value,
    "bound": _bound,
    "mark": _mark,
    "spy": _spy,
}


def done(state, deed):
    """Do a deed that fits the things of the state, and return what it returns."""
    action = ACTIONS[deed[0]]
    rest = deed[1:]
    return action(state, *rest)
