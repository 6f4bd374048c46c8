"""The things that programs work on [4]."""

from quietprobes.checks import check_names, check_unlike, is_name
from quietprobes.errors import TooMany

MOST_KEYS = 4


class Thing:
    """A thing, made by one of the static methods."""

    KINDS = ("feed", "dice", "table", "source", "field", "flag", "slot")

    def __init__(self, kind, name, parts):
        check_names((name, *parts))
        self.kind = kind
        self.name = name
        self.parts = parts

    @staticmethod
    def feed(name):
        """A name for a one-shot row of items."""
        return Thing("feed", name, ())

    @staticmethod
    def dice(name):
        """An endless row of chance numbers."""
        return Thing("dice", name, ())

    @staticmethod
    def table(name, *keys):
        """Entries under some of the keys."""
        made = Thing("table", name, keys)
        check_unlike(keys)
        if len(keys) > MOST_KEYS:
            raise TooMany(MOST_KEYS)
        return made

    @staticmethod
    def source(name):
        """A value that the program changes."""
        return Thing("source", name, ())

    @staticmethod
    def field(name, over):
        """A value that is worked out at the first look, and kept."""
        return Thing("field", name, (over,))

    @staticmethod
    def flag(name):
        """True or False; reading clears it."""
        return Thing("flag", name, ())

    @staticmethod
    def slot(name):
        """A variable."""
        return Thing("slot", name, ())

    def __eq__(self, other):
        return (isinstance(other, Thing) and self.kind == other.kind
                and self.name == other.name and self.parts == other.parts)

    def __str__(self):
        return " ".join([self.kind, self.name, *self.parts])


def read_thing(line):
    """The thing with this line, a string; None if there is none."""
    words = line.split(" ")
    if len(words) < 2 or words[0] not in Thing.KINDS or not all([is_name(word) for word in words]):
        return None
    parts = tuple(words[2:])
    return Thing(words[0], words[1], parts) if _can_have(words[0], parts) else None


def _can_have(kind, parts):
    """Whether a thing of this kind can have these names as its parts."""
    if kind == "table":
        return len(parts) <= MOST_KEYS and len(set(parts)) == len(parts)
    return len(parts) == (1 if kind == "field" else 0)
