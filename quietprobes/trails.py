"""How the uneven things of two worlds became so [18]."""


class Trails:
    """For each uneven thing the deeds that its trail leads over."""

    def __init__(self, things):
        self._below = {thing.name: thing.parts[0] for thing in things if thing.kind == "field"}
        # A trail is told by its last link. A link is the tuple of the number of a row, a thing,
        # and the place of the link ahead of it, None if it is the first one. Trails share links,
        # so that thousands of copies cost no more than a link each.
        self._links = []
        self._last = {}

    def begin(self, number, before, after):
        """An extra deed of a row was done; before it and behind it these things were uneven."""
        for name in after:
            if name not in before:
                self._add(number, name, None)

    def carry(self, number, name, other):
        """A row gave a thing the content of another one, which is uneven."""
        self._add(number, name, self._last[other])

    def sink(self, number, field, before, after):
        """Both runs looked at a field; before it and behind it these things were uneven."""
        new = [name for name in after if name not in before]
        if new:
            last = self._last[self.first_uneven(field, before)]
            for name in new:
                self._add(number, name, last)

    def first_uneven(self, field, names):
        """Which of these names comes first in a field and what it is over, one after another; one of them does."""
        at = field
        while at not in names:
            at = self._below[at]
        return at

    def trail_of(self, name):
        """The trail of an uneven thing."""
        trail = []
        last = self._last[name]
        while last is not None:
            number, thing, last = self._links[last]
            trail.append((number, thing))
        trail.reverse()
        return trail

    def _add(self, number, name, last):
        """The trail of a thing ends now with this row, behind the link that was the last one."""
        self._links.append((number, name, last))
        self._last[name] = len(self._links) - 1
