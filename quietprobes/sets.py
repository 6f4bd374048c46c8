"""Sets of probes, and which of them are harmful [25]."""

from quietprobes.errors import BadMode, TooMany
from quietprobes.settings import Setting
from quietprobes.verdicts import judge

MOST_PROBES = 5


def sets_in_order(names):
    """All sets of these names, by the number of their names and then ascending [TooMany]."""
    if len(names) > MOST_PROBES:
        raise TooMany(MOST_PROBES)
    found = [()]
    for name in sorted(names):
        found = [*found, *[(*smaller, name) for smaller in found]]
    # What is alike for the second order stays as it is in the first one.
    return sorted(sorted(found), key=len)


def survey(program, *, mode="on", limit=1000):
    """For each set of probes whether it is harmless."""
    if mode not in (Setting.DEAF, Setting.ON):
        raise BadMode(mode)
    found = {}
    for names in sets_in_order(program.probes):
        setting = Setting(*names) if mode == Setting.ON else Setting(deaf=names)
        found[names] = judge(program, setting, limit=limit).is_harmless
    return found


def least_harmful(program, *, mode="on", limit=1000):
    """The harmful sets that have no smaller harmful set as a part."""
    found = survey(program, mode=mode, limit=limit)
    harmful = [names for names in found if not found[names]]
    return [names for names in harmful if not any([_is_smaller(other, names) for other in harmful])]


def greatest_harmless(program, *, mode="on", limit=1000):
    """The harmless sets that are no part of a larger harmless set."""
    found = survey(program, mode=mode, limit=limit)
    harmless = [names for names in found if found[names]]
    return [names for names in harmless if not any([_is_smaller(names, other) for other in harmless])]


def _is_smaller(names, others):
    """Whether a set is a part of another one, and is not all of it."""
    return len(names) < len(others) and all([name in others for name in names])
