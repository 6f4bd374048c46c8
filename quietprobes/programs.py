"""Programs of things and parts [11, 12], and their texts [13]."""

from quietprobes.blocks import numbers_behind
from quietprobes.checks import is_int, is_name
from quietprobes.errors import BadPlace, BadText, NoProbe, NoRow, NoThing
from quietprobes.faults import check_parts, check_rows
from quietprobes.looks import thing_of
from quietprobes.rows import is_probe, read_row, row_text
from quietprobes.things import read_thing
from quietprobes.worlds import World


class Program:
    """Things, and parts with rows that work on them."""

    def __init__(self, things, *parts):
        self.things = World(*things).things
        check_parts(parts)
        check_rows(self.things, parts)
        self.parts = tuple([(name, tuple(rows)) for name, rows in parts])
        self.rows = tuple([row for _, rows in self.parts for row in rows])
        self.probes = tuple([row[1] for row in self.rows if is_probe(row)])
        self.asserts = tuple([row[1] for row in self.rows if row[0] == "assert"])
        self._spans = _spans_of(self.parts)
        # For each row the number behind the last row of its part.
        self._ends = tuple([end for start, end in self._spans.values() for _ in range(start, end)])
        self._followers = numbers_behind(self.rows)

    @staticmethod
    def read(text):
        """The program with this text."""
        if not isinstance(text, str):
            raise BadText(-1)
        things = []
        parts = []
        for number, line in enumerate(text.split("\n")):
            if _is_part_line(line):
                parts.append((line.split(" ")[1], []))
                continue
            found = read_row(line) if parts else read_thing(line)
            if found is None:
                raise BadText(number)
            lines = parts[-1][1] if parts else things
            lines.append(found)
        return Program(things, *parts)

    def row_of(self, name):
        """The number of the row of a probe."""
        if name not in self:
            raise NoProbe(name)
        return [number for number, row in enumerate(self.rows) if is_probe(row) and row[1] == name][0]

    def part_of(self, number):
        """The name of the part of a row."""
        self._check_number(number)
        return [name for name, (start, end) in self._spans.items() if start <= number < end][0]

    def focused(self, *names):
        """The program whose probes look at these things alone, and spy on the others."""
        known = [thing.name for thing in self.things]
        for name in names:
            if name not in known:
                raise NoThing(name)
        parts = [(part, [_focused_row(row, names) for row in rows]) for part, rows in self.parts]
        return Program(self.things, *parts)

    def moved(self, name, number):
        """The program with a probe put ahead of a row of its part, with the numbers that rows have without it."""
        at = self.row_of(name)
        part = self.part_of(at)
        start, end = self._spans[part]
        if not is_int(number) or not start <= number < end:
            raise NoRow(number)
        rows = self._rows_beside(at)
        rows.insert(number - start, self.rows[at])
        return self._with_part(part, rows)

    def first_place(self):
        """The place at which a run begins."""
        return (0,) if self.parts[0][1] else ()

    def is_place(self, place):
        """Whether any object is a place of the program; no run need ever be there."""
        if not isinstance(place, tuple):
            return False
        start, end = self._spans[self.parts[0][0]]
        for number in place:
            if not is_int(number) or not start <= number < end:
                return False
            row = self.rows[number]
            # Only a call has numbers behind it.
            start, end = self._spans[row[1]] if row[0] == "call" else (0, 0)
        return True

    def behind(self, place, answer=True):
        """The place that comes behind the row of a place, by the answer of a test or an assert."""
        if not self.is_place(place) or not place:
            raise BadPlace(place)
        number = place[-1]
        row = self.rows[number]
        if row[0] == "call" and self._spans[row[1]][0] < self._spans[row[1]][1]:
            return (*place, self._spans[row[1]][0])
        by_true, by_false = self._followers[number]
        following = by_true if answer else by_false
        return () if following is None else self._place_at(place, following)

    def __len__(self):
        return len(self.rows)

    def __getitem__(self, number):
        self._check_number(number)
        return self.rows[number]

    def __iter__(self):
        return iter(self.rows)

    def __contains__(self, name):
        return name in self.probes

    def __sub__(self, name):
        at = self.row_of(name)
        return self._with_part(self.part_of(at), self._rows_beside(at))

    def __eq__(self, other):
        return isinstance(other, Program) and self.things == other.things and self.parts == other.parts

    def __str__(self):
        return "\n".join(_lines_of(self.things, self.parts))

    def _check_number(self, number):
        """Raise NoRow of any object that is no number of a row."""
        if not is_int(number) or not 0 <= number < len(self.rows):
            raise NoRow(number)

    def _rows_beside(self, at):
        """The rows of the part of a row, without this one."""
        start, end = self._spans[self.part_of(at)]
        return [*self.rows[start:at], *self.rows[at + 1:end]]

    def _with_part(self, part, rows):
        """The program with other rows in a part."""
        parts = [(name, rows if name == part else own) for name, own in self.parts]
        return Program(self.things, *parts)

    def _place_at(self, place, following):
        """The place at which a run goes on with a number of the part of a place, or with what is behind the part."""
        depth = len(place) - 1
        while following == self._ends[place[depth]]:
            if depth == 0:
                return ()
            depth -= 1
            following = place[depth] + 1
        return (*place[:depth], following)


def _spans_of(parts):
    """For each name of a part the number of its first row, and the one behind its last row."""
    spans = {}
    start = 0
    for name, rows in parts:
        end = start + len(rows)
        spans[name] = (start, end)
        start = end
    return spans


def _is_part_line(line):
    """Whether a line begins a part."""
    words = line.split(" ")
    return len(words) == 2 and words[0] == "part" and is_name(words[1])


def _lines_of(things, parts):
    """The lines of the text of a program."""
    lines = [str(thing) for thing in things]
    for name, rows in parts:
        lines.append(f"part {name}")
        lines.extend([row_text(row) for row in rows])
    return lines


def _focused_row(row, names):
    """A row in which a probe spies on all things but these."""
    if not is_probe(row):
        return row
    word, name, gate, args, rest = row
    # The test of an assert stays as it is.
    looks = _focused_looks(rest, names) if word == "probe" else rest
    return (word, name, gate, _focused_looks(args, names), looks)


def _focused_looks(looks, names):
    """The looks with spies in the place of those at other things."""
    return tuple([look if thing_of(look) in names else ("spy", thing_of(look)) for look in looks])
