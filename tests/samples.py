"""Objects and worlds that several tests share."""

from quietprobes.things import Thing
from quietprobes.worlds import World

NAMES = ["a", "z", "seen", "abcdefgh", "zzzzzzzz", "feed", "part"]

NO_NAMES = [
    "", "abcdefghi", "a" * 400, "A", "aB", "Seen", "a1", "1", "a b", " a", "a ", " ", "\n", "a\n", "\na", "a\nb",
    "a_b", "-", "a.", "`", "{", "~", "@", "[",
    True, False, 0, 1, -1, 10 ** 39, None, (), [], ("a",), ["a"], ("a", ["a"]), ([],), [[["a"]]], ((), ("a", [True])),
]

ODD_OBJECTS = [
    True, False, 0, 1, -1, 10 ** 39, None, "", "a", "a b\n~", (), [], ("a",), ["a"], ("a", ["b", (None,)]),
    [[[[[[]]]]]], tuple(range(500)),
]


def one_of_each():
    """A world with a thing of each kind, and a second feed."""
    return World(
        Thing.feed("f"), Thing.feed("g"), Thing.dice("d"), Thing.table("t", "a", "b"),
        Thing.source("s"), Thing.field("v", "s"), Thing.flag("l"), Thing.slot("n"),
    )


def after(*deeds):
    """Such a world behind some deeds."""
    world = one_of_each()
    for deed in deeds:
        world.do(deed)
    return world


def same(found, wanted):
    """Whether two objects are equal and of the same kinds throughout, so that True is not 1."""
    if isinstance(wanted, (list, tuple)):
        return (type(found) is type(wanted) and len(found) == len(wanted)
                and all(same(x, y) for x, y in zip(found, wanted)))
    return type(found) is type(wanted) and found == wanted
