"""The looks that probes do, and their quiet twins [9]."""

# Only the looks that leave a trace are listed: all others are their own twins.
QUIET_WORDS = {
    "take": "spy",
    "drain": "spy",
    "roll": "spy",
    "get": "peek",
    "drop": "has",
    "look": "glance",
    "renew": "glance",
    "read": "watch",
    "mark": "bound",
}


def leaves_trace(look):
    """Whether a look may change the thing that it looks at."""
    return look[0] in QUIET_WORDS


def quiet_twin(look):
    """The look that stands for a look and leaves no trace."""
    word = QUIET_WORDS.get(look[0], look[0])
    return (word, *look[1:])


def thing_of(look):
    """The name of the thing of a look."""
    return look[1]
