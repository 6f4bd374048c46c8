"""The errors of the package, each directly under QuietError."""


class QuietError(ValueError):
    """The base class of all errors of the package."""


class BadName(QuietError):
    """An object that is no name."""

    def __init__(self, name):
        super().__init__(f"no name: {name!r}")
        self.name = name


class BadDeed(QuietError):
    """An object that is no deed."""

    def __init__(self, deed):
        super().__init__(f"no deed: {deed!r}")
        self.deed = deed


class BadRow(QuietError):
    """A number at which there is an object that is no row."""

    def __init__(self, number):
        super().__init__(f"no row stands at: {number!r}")
        self.number = number


class BadPlace(QuietError):
    """An object that is no place of a program."""

    def __init__(self, place):
        super().__init__(f"no place: {place!r}")
        self.place = place


class BadMode(QuietError):
    """An object that is no mode."""

    def __init__(self, mode):
        super().__init__(f"no mode: {mode!r}")
        self.mode = mode


class BadContents(QuietError):
    """A part of contents that is not as contents are."""

    def __init__(self, part):
        super().__init__(f"not as contents are: {part!r}")
        self.part = part


class BadTurn(QuietError):
    """An object that is no kind of turn."""

    def __init__(self, turn):
        super().__init__(f"no turn: {turn!r}")
        self.turn = turn


class BadPair(QuietError):
    """An object that is no pair of a program."""

    def __init__(self, pair):
        super().__init__(f"no pair: {pair!r}")
        self.pair = pair


class BadText(QuietError):
    """A text with a line that cannot be read."""

    def __init__(self, line):
        super().__init__(f"cannot be read, line: {line!r}")
        self.line = line


class BadCommand(QuietError):
    """An object that is no command of a desk."""

    def __init__(self, command):
        super().__init__(f"no command: {command!r}")
        self.command = command


class NoThing(QuietError):
    """A name that no thing has, or none of the kind that is asked for."""

    def __init__(self, name):
        super().__init__(f"no such thing: {name!r}")
        self.name = name


class NoKey(QuietError):
    """A key that the table does not have."""

    def __init__(self, key):
        super().__init__(f"no such key: {key!r}")
        self.key = key


class NoPart(QuietError):
    """A part that a program does not have where it is asked for."""

    def __init__(self, name):
        super().__init__(f"no such part: {name!r}")
        self.name = name


class NoRow(QuietError):
    """An object that is no number of a row of a program."""

    def __init__(self, number):
        super().__init__(f"no such row: {number!r}")
        self.number = number


class NoProbe(QuietError):
    """A name that no probe of a program has."""

    def __init__(self, name):
        super().__init__(f"no such probe: {name!r}")
        self.name = name


class NotNested(QuietError):
    """A probe whose mode in the base is greater than in the setting."""

    def __init__(self, name):
        super().__init__(f"the base is not within the setting: {name!r}")
        self.name = name


class Twice(QuietError):
    """A name that is there a second time."""

    def __init__(self, name):
        super().__init__(f"there twice: {name!r}")
        self.name = name


class Unmatched(QuietError):
    """A row that begins or ends a block which has no other side."""

    def __init__(self, number):
        super().__init__(f"a row without its other side: {number!r}")
        self.number = number


class TooMany(QuietError):
    """More than there may be."""

    def __init__(self, limit):
        super().__init__(f"more than: {limit!r}")
        self.limit = limit


class Watched(QuietError):
    """A world that is to be watched, and is watched already."""

    def __init__(self):
        super().__init__("the world is watched already")


class Over(QuietError):
    """A run that is to go on, and is over."""

    def __init__(self):
        super().__init__("the run is over")
