"""What the whole package asks of any object [2]."""

from quietprobes.errors import BadName, Twice

LONGEST_NAME = 8


def is_int(thing):
    """Whether any object is an integer; True and False are none."""
    return isinstance(thing, int) and not isinstance(thing, bool)


def is_name(thing):
    """Whether any object is a name."""
    if not isinstance(thing, str) or len(thing) > LONGEST_NAME:
        return False
    return thing.isascii() and thing.isalpha() and thing.islower()


def check_names(things):
    """Raise BadName of the first object of a list or tuple that is no name."""
    for thing in things:
        if not is_name(thing):
            raise BadName(thing)


def check_unlike(names):
    """Raise Twice of the first name of a list or tuple that is there a second time."""
    for at, name in enumerate(names):
        if name in names[:at]:
            raise Twice(name)
