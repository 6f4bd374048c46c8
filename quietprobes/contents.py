"""Contents, which come from outside during a run [15], and their texts [29]."""

from quietprobes.checks import is_name
from quietprobes.deeds import is_length
from quietprobes.errors import BadContents, BadText

MOST_MEMBERS = 1000
MOST_NAMES = 100
# A number of items has at most so many digits.
MOST_DIGITS = 31


class Contents:
    """The answers, lengths and loads that a run uses up."""

    def __init__(self, answers=(), lengths=(), loads=()):
        if not _are_answers(answers):
            raise BadContents("answers")
        if not _are_lengths(lengths):
            raise BadContents("lengths")
        if not _are_loads(loads):
            raise BadContents("loads")
        self.answers = tuple(answers)
        self.lengths = tuple(lengths)
        self.loads = tuple([tuple(load) for load in loads])

    @staticmethod
    def read(text):
        """The contents with this text."""
        if not isinstance(text, str):
            raise BadText(-1)
        parts = text.split(" / ")
        if len(parts) != 3:
            raise BadText(0)
        answers = [word == "yes" for word in _words_of(parts[0])]
        lengths = [_read_length(word) for word in _words_of(parts[1])]
        loads = [_read_load(word) for word in _words_of(parts[2])]
        try:
            contents = Contents(answers, lengths, loads)
        except BadContents:
            raise BadText(0) from None
        # Contents have one text each, so the words were read rightly if it is this one.
        if str(contents) != text:
            raise BadText(0)
        return contents

    def __add__(self, other):
        return Contents(self.answers + other.answers, self.lengths + other.lengths, self.loads + other.loads)

    def __len__(self):
        return len((*self.answers, *self.lengths, *self.loads))

    def __eq__(self, other):
        return (isinstance(other, Contents) and self.answers == other.answers
                and self.lengths == other.lengths and self.loads == other.loads)

    def __str__(self):
        answers = ["yes" if answer else "no" for answer in self.answers]
        lengths = [str(length) for length in self.lengths]
        loads = ["+".join(load) if load else "." for load in self.loads]
        return " / ".join([" ".join(words) if words else "-" for words in (answers, lengths, loads)])


def _is_list(given, most):
    """Whether any object is a list or tuple of at most so many members."""
    return isinstance(given, (list, tuple)) and len(given) <= most


def _are_answers(answers):
    """Whether any object can be the answers."""
    return _is_list(answers, MOST_MEMBERS) and all([isinstance(answer, bool) for answer in answers])


def _are_lengths(lengths):
    """Whether any object can be the lengths."""
    return _is_list(lengths, MOST_MEMBERS) and all([is_length(length) for length in lengths])


def _are_loads(loads):
    """Whether any object can be the loads."""
    return _is_list(loads, MOST_MEMBERS) and all([_is_load(load) for load in loads])


def _is_load(load):
    """Whether any object can be one of the loads."""
    return _is_list(load, MOST_NAMES) and all([is_name(name) for name in load])


def _words_of(part):
    """The words of a part of a text."""
    return [] if part == "-" else part.split(" ")


def _read_length(word):
    """The number that a word tells; -1 if it tells none that is a length."""
    if len(word) > MOST_DIGITS or not word.isascii() or not word.isdigit():
        return -1
    return int(word)


def _read_load(word):
    """What would be a load with this word; it need not be one."""
    return () if word == "." else tuple(word.split("+"))
