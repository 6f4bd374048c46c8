"""Whether settings fit a program, and a base its setting [14, 17]."""

from quietprobes.errors import NoProbe, NotNested
from quietprobes.settings import Setting


def fitting_setting(program, setting):
    """The setting, all probes out if it is None [NoProbe]."""
    if setting is None:
        return Setting()
    for name in setting.names():
        if name not in program:
            raise NoProbe(name)
    return setting


def fitting_base(program, setting, base):
    """The base, all probes out if it is None [NoProbe of the setting and of the base, NotNested]."""
    fitting_setting(program, setting)
    lower = fitting_setting(program, base)
    greater = lower ^ (lower & setting)
    if greater:
        raise NotNested(greater[0])
    return lower
