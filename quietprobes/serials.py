"""The serials of joint states, and their numbers [19]."""

from quietprobes.checks import is_int


def with_numbers(things, state):
    """A joint state with its serials numbered by their first appearance."""
    numbers = {}
    for thing, entry in zip(things, state):
        for value in values_of(thing.kind, entry):
            if is_serial(value):
                numbers.setdefault(value, len(numbers) + 1)
    entries = [_numbered(thing.kind, entry, numbers) for thing, entry in zip(things, state)]
    # What stands behind the entries of the things has no serials.
    return (*entries, *state[len(things):])


def is_serial(value):
    """Whether a value is a serial."""
    return is_int(value) and value > 0


def values_of(kind, entry):
    """The values in the entry of a thing of this kind that may be serials, from left to right."""
    if kind == "source":
        return [entry]
    if kind in ("field", "slot"):
        return list(entry)
    if kind == "table":
        return [value for content in entry for _, value in content]
    return []


def _numbered(kind, entry, numbers):
    """The entry of a thing of this kind with other numbers for its serials."""
    if kind == "source":
        return _number(entry, numbers)
    if kind in ("field", "slot"):
        return tuple([_number(value, numbers) for value in entry])
    if kind == "table":
        return tuple([tuple([(key, _number(value, numbers)) for key, value in content]) for content in entry])
    return entry


def _number(value, numbers):
    """The number that a value has now, or itself if it is no serial."""
    return numbers[value] if is_serial(value) else value
