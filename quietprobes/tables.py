"""Tables of pairs, by which anybody can show that a setting is harmless [22]."""

from quietprobes.joint import first_pair, is_pair
from quietprobes.nesting import fitting_base
from quietprobes.twins import outcomes


def is_closed(program, table, setting, *, base=None):
    """Whether any object is a closed table."""
    lower = fitting_base(program, setting, base)
    if not isinstance(table, (list, tuple)) or not all([is_pair(program, pair, setting) for pair in table]):
        return False
    # Pairs can be compared with each other: what equals a pair and is none was refused.
    pairs = {pair: True for pair in table}
    return first_pair(program) in pairs and all([_stays(program, pair, setting, lower, pairs) for pair in pairs])


def _stays(program, pair, setting, base, pairs):
    """Whether no move of a pair parts, and each leads to one of the pairs."""
    for _, twins in outcomes(program, pair, setting, base):
        if twins.has_parted or (twins.place, twins.told_state()) not in pairs:
            return False
    return True
