"""Settings, which give each probe a mode [14]."""

from quietprobes.checks import check_names, check_unlike
from quietprobes.errors import BadMode

# From the least to the greatest.
MODES = ("out", "deaf", "on")


class Setting:
    """The modes of all probes; those that it does not name are out."""

    OUT = "out"
    DEAF = "deaf"
    ON = "on"

    def __init__(self, *on, deaf=()):
        check_names((*on, *deaf))
        check_unlike((*on, *deaf))
        modes = {name: Setting.ON for name in on}
        for name in deaf:
            modes[name] = Setting.DEAF
        # Only names that are not out are kept, so that equal settings have equal dicts.
        self._modes = modes

    @staticmethod
    def every(program, *, mode="on"):
        """The setting with all probes of a program in a mode."""
        _check_mode(mode)
        return _setting_of({name: mode for name in program.probes})

    def names(self):
        """The names that are not out, ascending."""
        return sorted(self._modes)

    def is_within(self, other):
        """Whether no probe has a greater mode than in the other setting."""
        return all([MODES.index(self[name]) <= MODES.index(other[name]) for name in self.names()])

    def duplicate(self):
        """An equal setting of its own."""
        return _setting_of(self._modes)

    def __getitem__(self, name):
        check_names((name,))
        return self._modes.get(name, Setting.OUT)

    def __setitem__(self, name, mode):
        check_names((name,))
        _check_mode(mode)
        if mode == Setting.OUT:
            self._modes.pop(name, None)
        else:
            self._modes[name] = mode

    def __iter__(self):
        raise TypeError("a setting is not iterated over")

    def __contains__(self, name):
        return isinstance(name, str) and name in self._modes

    def __len__(self):
        return len(self._modes)

    def __or__(self, other):
        return _setting_of({name: _greater(self[name], other[name]) for name in _names_of_either(self, other)})

    def __ior__(self, other):
        for name in other.names():
            self[name] = _greater(self[name], other[name])
        return self

    def __and__(self, other):
        return _setting_of({name: _lesser(self[name], other[name]) for name in self.names()})

    def __sub__(self, other):
        return _setting_of({name: self[name] for name in self.names() if name not in other})

    def __xor__(self, other):
        return [name for name in _names_of_either(self, other) if self[name] != other[name]]

    def __eq__(self, other):
        return isinstance(other, Setting) and self._modes == other._modes


def without_asserts(program, setting):
    """The setting in which the asserts of a program are out."""
    return setting - Setting(*program.asserts)


def _check_mode(mode):
    """Raise BadMode of any object that is no mode."""
    if mode not in MODES:
        raise BadMode(mode)


def _setting_of(modes):
    """The setting with the modes that a dict has by name."""
    on = [name for name in modes if modes[name] == Setting.ON]
    deaf = [name for name in modes if modes[name] == Setting.DEAF]
    return Setting(*on, deaf=deaf)


def _names_of_either(first, second):
    """The names that are not out in at least one of two settings, ascending."""
    return sorted(set([*first.names(), *second.names()]))


def _greater(mode, other):
    """The greater one of two modes."""
    return MODES[max(MODES.index(mode), MODES.index(other))]


def _lesser(mode, other):
    """The lesser one of two modes."""
    return MODES[min(MODES.index(mode), MODES.index(other))]
