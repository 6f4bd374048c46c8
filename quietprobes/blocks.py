"""The blocks that an if or while begins, and what comes behind a row in its part [12]."""

from quietprobes.errors import TooMany, Unmatched

OPENING = ("if", "while")
MOST_BLOCKS = 8


def open_behind(opened, number, word):
    """The blocks that are open behind a row, from those that are open ahead of it [Unmatched, TooMany].

    A block is told as the tuple of the number of its first row and the last word of its own so far.
    """
    if word in ("else", "end") and not opened:
        raise Unmatched(number)
    if word == "else":
        first, last = opened[-1]
        if last != "if":
            raise Unmatched(number)
        return (*opened[:-1], (first, word))
    if word == "end":
        return opened[:-1]
    if word not in OPENING:
        return opened
    if len(opened) == MOST_BLOCKS:
        raise TooMany(MOST_BLOCKS)
    return (*opened, (number, word))


def numbers_behind(rows):
    """For each row what comes behind it in its part by True, and by False; None where the run is over."""
    blocks = _blocks_of(rows)
    return tuple([_behind(rows, number, blocks.get(number)) for number in range(len(rows))])


def _blocks_of(rows):
    """For each row that begins, parts or ends a block the tuple of all such rows of the block."""
    blocks = {}
    opened = []
    for number, row in enumerate(rows):
        if row[0] in OPENING:
            opened.append((number,))
        elif row[0] == "else":
            opened[-1] = (*opened[-1], number)
        elif row[0] == "end":
            block = (*opened.pop(), number)
            for own in block:
                blocks[own] = block
    return blocks


def _behind(rows, number, block):
    """What comes behind a row, which may be one of the rows of a block, by True and by False."""
    word = rows[number][0]
    if word == "stop":
        return None, None
    if word == "assert":
        return number + 1, None
    if word in OPENING:
        # Behind the first row stands the else, or the end if there is no else.
        return number + 1, block[1] + 1
    following = number + 1
    if word == "else":
        following = block[-1] + 1
    if word == "end" and rows[block[0]][0] == "while":
        following = block[0]
    return following, following
