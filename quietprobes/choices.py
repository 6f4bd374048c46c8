"""The choices that come up where something happens in more than one way [20]."""


class Choices:
    """The choices of one way: those that were given, and False for all that come up behind them."""

    def __init__(self, given):
        self.made = []
        self._given = given

    def next_choice(self):
        """The choice that comes up next."""
        at = len(self.made)
        choice = at < len(self._given) and self._given[at]
        self.made.append(choice)
        return choice

    def given_next(self):
        """What is to be given for the next way in ascending order; None behind the last one."""
        made = list(self.made)
        while made and made[-1]:
            made.pop()
        return [*made[:-1], True] if made else None
