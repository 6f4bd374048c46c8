"""What deeds look like [6], and what they ask of the things of a world."""

from quietprobes.checks import is_int, is_name
from quietprobes.errors import NoKey, NoThing
from quietprobes.things import Thing

LONGEST_ROW = 10 ** 30

# What stands behind each word. A kind is the name of a thing of this kind,
# "thing" that of any thing, and "key" a key of the table ahead of it.
PARTS = {
    "take": ("feed",),
    "skip": ("feed",),
    "drain": ("feed",),
    "fetch": ("feed", "length"),
    "bind": ("feed", "feed"),
    "roll": ("dice",),
    "seed": ("dice",),
    "get": ("table", "key"),
    "peek": ("table", "key"),
    "has": ("table", "key"),
    "put": ("table", "key"),
    "fill": ("table", "key"),
    "drop": ("table", "key"),
    "size": ("table",),
    "keys": ("table",),
    "load": ("table", "keys"),
    "wipe": ("table",),
    "change": ("source",),
    "look": ("field",),
    "glance": ("field",),
    "renew": ("field",),
    "lift": ("flag",),
    "read": ("flag",),
    "watch": ("flag",),
    "keep": ("slot",),
    "copy": ("slot", "slot"),
    "tell": ("slot",),
    "bound": ("slot",),
    "mark": ("slot", "mark"),
    "spy": ("thing",),
}


def is_deed(deed):
    """Whether any object is a deed; its names need not be names of things."""
    if not isinstance(deed, tuple) or not deed:
        return False
    if not isinstance(deed[0], str) or deed[0] not in PARTS:
        return False
    parts = PARTS[deed[0]]
    if len(deed) != len(parts) + 1:
        return False
    return all([_is_part(part, given) for part, given in zip(parts, deed[1:])])


def _is_part(part, given):
    """Whether any object can stand where PARTS has this part."""
    if part == "length":
        return is_length(given)
    if part == "keys":
        return isinstance(given, tuple) and all([is_name(key) for key in given])
    return is_name(given)


def is_length(given):
    """Whether any object is a number of items of a row."""
    return is_int(given) and 0 <= given <= LONGEST_ROW


def check_deed(by_name, deed):
    """Raise NoThing or NoKey of the first name of a deed that the things, a dict by their names, do not have.

    The deed may also be a look or a row, which lack what comes behind the names of things.
    """
    for part, given in zip(PARTS[deed[0]], deed[1:]):
        if part == "key" and given not in by_name[deed[1]].parts:
            raise NoKey(given)
        if part == "thing" and given not in by_name:
            raise NoThing(given)
        if part in Thing.KINDS and (given not in by_name or by_name[given].kind != part):
            raise NoThing(given)
