"""What is wrong with the parts and rows of a program that is to be made [11, 12]."""

from quietprobes.blocks import open_behind
from quietprobes.checks import check_names, check_unlike
from quietprobes.deeds import check_deed
from quietprobes.errors import BadRow, NoPart, TooMany, Twice, Unmatched
from quietprobes.rows import deeds_of, is_probe, is_row

MOST_PARTS = 5
MOST_ROWS = 60


def check_parts(parts):
    """Raise the error that parts have apart from what their rows are."""
    if not parts:
        raise NoPart(None)
    if len(parts) > MOST_PARTS:
        raise TooMany(MOST_PARTS)
    names = [name for name, _ in parts]
    check_names(names)
    check_unlike(names)
    if sum([len(rows) for _, rows in parts]) > MOST_ROWS:
        raise TooMany(MOST_ROWS)


def check_rows(things, parts):
    """Raise the first error of the rows, one after another."""
    by_name = {thing.name: thing for thing in things}
    number = 0
    probes = []
    for at, (_, rows) in enumerate(parts):
        later = [name for name, _ in parts[at + 1:]]
        opened = ()
        for row in rows:
            if not is_row(row):
                raise BadRow(number)
            _check_row(by_name, probes, later, row)
            opened = open_behind(opened, number, row[0])
            if is_probe(row):
                probes.append(row[1])
            number += 1
        if opened:
            raise Unmatched(opened[-1][0])


def _check_row(by_name, probes, later, row):
    """Raise the error of a row by itself, with the probes ahead of it and the parts behind its own."""
    for deed in deeds_of(row):
        check_deed(by_name, deed)
    if is_probe(row) and row[1] in probes:
        raise Twice(row[1])
    if row[0] == "call" and row[1] not in later:
        raise NoPart(row[1])
