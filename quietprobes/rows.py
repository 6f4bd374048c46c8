"""The rows of programs [11], those of probes [10], and their lines [13]."""

from quietprobes.checks import is_name

# How many names stand behind each word.
NAMES_BEHIND = {
    "take": 1,
    "skip": 1,
    "drain": 1,
    "fetch": 1,
    "bind": 2,
    "roll": 1,
    "seed": 1,
    "get": 2,
    "peek": 2,
    "has": 2,
    "put": 2,
    "fill": 2,
    "drop": 2,
    "size": 1,
    "keys": 1,
    "load": 1,
    "wipe": 1,
    "change": 1,
    "look": 1,
    "glance": 1,
    "renew": 1,
    "lift": 1,
    "read": 1,
    "watch": 1,
    "keep": 1,
    "copy": 2,
    "tell": 1,
    "bound": 1,
    "mark": 1,
    "spy": 1,
    "say": 1,
    "stop": 0,
    "call": 1,
    "else": 0,
    "end": 0,
    "ask": 1,
}
LOOKS = (
    "take", "drain", "roll", "get", "drop", "look", "renew", "read", "mark",
    "peek", "has", "size", "keys", "glance", "watch", "tell", "bound", "spy",
)
DEEDS = (
    "take", "skip", "drain", "fetch", "bind", "roll", "seed", "get", "peek", "put", "fill", "drop", "size", "keys",
    "load", "wipe", "change", "look", "glance", "renew", "lift", "read", "watch", "keep", "copy", "tell",
)
STEPS = ("say", "stop", "call", "else", "end")
IF_TESTS = ("ask", "take", "has", "read", "bound")
WHILE_TESTS = ("ask", "take")
ASSERT_TESTS = ("has", "bound", "read", "watch")
PROBES = ("probe", "assert")
GATES = ("always", "first", "later", "second")
MOST_LOOKS = 6


def is_look(row):
    """Whether any object is a look; its names need not be names of things."""
    return _is_one_of(LOOKS, row)


def is_row(row):
    """Whether any object is a row; its names need not be names of things."""
    if not isinstance(row, tuple) or not row:
        return False
    if row[0] == "if":
        return _is_one_of(IF_TESTS, row[1:])
    if row[0] == "while":
        return _is_one_of(WHILE_TESTS, row[1:])
    if row[0] in PROBES:
        return len(row) == 5 and _has_probe_parts(row)
    return _is_one_of(DEEDS, row) or _is_one_of(STEPS, row)


def _is_one_of(words, row):
    """Whether any object is a tuple of one of the words and of the names that stand behind it."""
    if not isinstance(row, tuple) or not row or row[0] not in words:
        return False
    return len(row) == NAMES_BEHIND[row[0]] + 1 and all([is_name(part) for part in row[1:]])


def _has_probe_parts(row):
    """Whether the five parts of a tuple are those of a probe or an assert."""
    word, name, gate, args, rest = row
    if not is_name(name) or gate not in GATES or not _are_looks(args):
        return False
    if word == "assert":
        return len(args) <= MOST_LOOKS and _is_one_of(ASSERT_TESTS, rest)
    return _are_looks(rest) and len(args) + len(rest) <= MOST_LOOKS


def _are_looks(looks):
    """Whether any object is a tuple of looks."""
    return isinstance(looks, tuple) and all([is_look(look) for look in looks])


def is_probe(row):
    """Whether a row is a probe or an assert."""
    return row[0] in PROBES


def deeds_of(row):
    """The deeds that a row names, in their order; those of fetch, load and mark lack what they get from elsewhere."""
    if row[0] == "probe":
        return (*row[3], *row[4])
    if row[0] == "assert":
        return (*row[3], row[4])
    if row[0] in ("if", "while"):
        return deeds_of(row[1:])
    # Neither the steps nor the test ask are deeds.
    return (row,) if row[0] in DEEDS or row[0] in LOOKS else ()


def row_text(row):
    """The line of a row."""
    if not is_probe(row):
        return " ".join(row)
    word, name, gate, args, rest = row
    looks = rest if word == "probe" else (rest,)
    texts = [f"{word} {name} {gate}", _looks_text(args), "/", _looks_text(looks)]
    return " ".join([text for text in texts if text])


def _looks_text(looks):
    """The looks as they stand in a line."""
    return " , ".join([" ".join(look) for look in looks])


def read_row(line):
    """The row with this line; None if there is none."""
    words = line.split(" ")
    row = _read_probe(words) if words[0] in PROBES else tuple(words)
    return row if is_row(row) else None


def _read_probe(words):
    """What would be the row of a probe with these words; it need not be a row."""
    if "/" not in words[3:]:
        return ()
    at = words.index("/", 3)
    args = _read_looks(words[3:at])
    rest = _read_looks(words[at + 1:])
    if words[0] == "assert" and len(rest) == 1:
        rest = rest[0]
    return (words[0], words[1], words[2], args, rest)


def _read_looks(words):
    """What would be looks with these words; they need not be looks."""
    if not words:
        return ()
    return tuple([tuple(text.split(" ")) for text in " ".join(words).split(" , ")])
