"""The interface: each name stands in its module, with the arguments that are shown [2]."""

import importlib
import inspect
import unittest

from quietprobes.comparing import compare
from quietprobes.contents import Contents
from quietprobes.desk import Desk
from quietprobes.errors import NoProbe
from quietprobes.joint import first_pair, is_pair, moves, normal, uneven
from quietprobes.programs import Program
from quietprobes.runs import Run, event_text, play, play_events
from quietprobes.sets import greatest_harmless, least_harmful, survey
from quietprobes.settings import Setting
from quietprobes.tables import is_closed
from quietprobes.things import Thing
from quietprobes.turning import Turn, fewest_turns, stands
from quietprobes.verdicts import failing, judge, partings

FUNCTIONS = {
    "looks": ["leaves_trace(look)", "quiet_twin(look)", "thing_of(look)"],
    "worlds": ["watched(world, deed)", "unseen(world, deed)"],
    "rows": ["is_look(row)", "is_row(row)", "is_probe(row)", "row_text(row)", "read_row(line)"],
    "settings": ["without_asserts(program, setting)"],
    "runs": ["play(program, contents, setting=None)", "play_events(program, contents, setting=None)", "event_text(event)"],
    "comparing": ["compare(program, contents, setting, *, base=None)"],
    "joint": ["first_pair(program)", "moves(program, pair, setting, *, base=None)", "is_pair(program, pair, setting)", "uneven(program, state)",
              "normal(program, state)"],
    "verdicts": ["judge(program, setting, *, base=None, limit=1000)", "partings(program, setting, *, base=None, limit=1000)",
                 "failing(program, setting, *, limit=1000)"],
    "tables": ["is_closed(program, table, setting, *, base=None)"],
    "sets": ["survey(program, *, mode='on', limit=1000)", "least_harmful(program, *, mode='on', limit=1000)",
             "greatest_harmless(program, *, mode='on', limit=1000)"],
    "turning": ["fewest_turns(program, setting, turn, *, limit=1000)", "stands(program, name, setting, *, limit=1000)"],
}
# A constructor is told by the name of its class; None where the program alone makes the objects.
METHODS = {
    ("things", "Thing"): [None, "feed(name)", "dice(name)", "source(name)", "flag(name)", "slot(name)", "field(name, over)", "table(name, *keys)",
                          "__eq__", "__str__"],
    ("worlds", "World"): ["World(*things)", "do(deed)", "duplicate()", "is_watched", "__getitem__", "__contains__", "__xor__", "__eq__"],
    ("programs", "Program"): [
        "Program(things, *parts)", "row_of(name)", "part_of(number)", "focused(*names)", "moved(name, number)", "first_place()", "is_place(place)",
        "behind(place, answer=True)", "read(text)", "__len__", "__getitem__", "__iter__", "__contains__", "__eq__", "__sub__", "__str__"],
    ("settings", "Setting"): [
        "Setting(*on, deaf=())", "names()", "is_within(other)", "duplicate()", "every(program, *, mode='on')", "__getitem__", "__setitem__", "__len__",
        "__contains__", "__or__", "__and__", "__ior__", "__sub__", "__xor__", "__eq__"],
    ("contents", "Contents"): ["Contents(answers=(), lengths=(), loads=())", "read(text)", "__add__", "__len__", "__eq__", "__str__"],
    ("runs", "Run"): ["Run(program, contents, setting=None)", "is_over", "events_so_far()", "world_so_far()", "step()", "finish()"],
    ("comparing", "Parting"): [None],
    ("verdicts", "Verdict"): [None, "__bool__"],
    ("turning", "Turn"): ["Turn(kind)", "__call__", "__eq__"],
    ("desk", "Desk"): ["Desk()", "say(command)", "run(commands)"],
}
ERRORS = [
    "BadName(name)", "BadDeed(deed)", "BadRow(number)", "BadPlace(place)", "BadMode(mode)", "BadContents(part)", "BadTurn(turn)", "BadPair(pair)",
    "BadText(line)", "BadCommand(command)", "NoThing(name)", "NoKey(key)", "NoPart(name)", "NoRow(number)", "NoProbe(name)", "NotNested(name)",
    "Twice(name)", "Unmatched(number)", "TooMany(limit)", "Watched()", "Over()",
]


def module_of(name):
    return importlib.import_module(f"quietprobes.{name}")


def shown(name, function, has_self=False):
    """A function as the interface shows it."""
    signature = inspect.signature(function)
    given = list(signature.parameters.values())[1 if has_self else 0:]
    return name + str(signature.replace(parameters=given))


class NamesTest(unittest.TestCase):
    def test_functions(self):
        for module, texts in FUNCTIONS.items():
            for text in texts:
                name = text.partition("(")[0]
                function = getattr(module_of(module), name)
                self.assertEqual(shown(name, function), text)
                self.assertEqual((function.__module__, inspect.isfunction(function)), (f"quietprobes.{module}", True))

    def test_classes(self):
        for (module, word), texts in METHODS.items():
            made = getattr(module_of(module), word)
            self.assertEqual((made.__module__, inspect.isclass(made)), (f"quietprobes.{module}", True))
            if texts[0]:
                self.assertEqual(shown(word, made.__init__, True), texts[0])
            for text in texts[1:]:
                self.assert_method(made, text)

    def assert_method(self, made, text):
        name = text.partition("(")[0]
        self.assertIn(name, vars(made))
        found = vars(made)[name]
        if "(" not in text:
            self.assertEqual(isinstance(found, property), name in ("is_watched", "is_over"))
        elif isinstance(found, staticmethod):
            self.assertEqual(shown(name, found.__func__), text)
        else:
            self.assertEqual(shown(name, found, True), text)
        statics = {"Thing": {"feed", "dice", "source", "flag", "slot", "field", "table"}, "Program": {"read"}, "Setting": {"every"}, "Contents": {"read"}}
        self.assertEqual(isinstance(found, staticmethod), name in statics.get(made.__name__, ()))

    def test_errors(self):
        errors = module_of("errors")
        self.assertEqual(errors.QuietError.__bases__, (ValueError,))
        for text in ERRORS:
            name = text.partition("(")[0]
            made = getattr(errors, name)
            self.assertEqual((made.__bases__, shown(name, made.__init__, True)), ((errors.QuietError,), text))


class ArgumentsTest(unittest.TestCase):
    """Each function is called by position and by the names of its arguments, and those after a star by name only."""

    ROWS = [("probe", "p", "always", (("get", "t", "a"),), ()), ("size", "t")]
    PROGRAM = Program([Thing.table("t", "a")], ("main", ROWS))

    def assert_same(self, call, positions, names, by_name=(), tell=lambda found: found):
        program = {"program": self.PROGRAM}
        wanted = tell(call(self.PROGRAM, *positions.values()))
        self.assertEqual(tell(call(**program, **positions)), wanted)
        self.assertEqual(tell(call(self.PROGRAM, **positions)), wanted)
        self.assertEqual(tell(call(**dict(reversed({**program, **positions, **names}.items())))), tell(call(self.PROGRAM, *positions.values(), **names)))
        if by_name:
            with self.assertRaises(TypeError):
                call(self.PROGRAM, *positions.values(), *by_name)

    def test_functions(self):
        on, none = Setting("p"), Contents()
        pair = first_pair(self.PROGRAM)
        rows = lambda found: None if found is None else found.rows
        told = lambda found: [entry[:2] for entry in found]
        self.assert_same(play, {"contents": none, "setting": on}, {})
        self.assert_same(play_events, {"contents": none, "setting": on}, {}, (), list)
        self.assert_same(Run, {"contents": none, "setting": on}, {}, (), lambda run: run.finish())
        self.assert_same(compare, {"contents": none, "setting": on}, {"base": Setting()}, [Setting()], rows)
        self.assert_same(first_pair, {}, {})
        self.assert_same(moves, {"pair": pair, "setting": on}, {"base": Setting()}, [Setting()])
        self.assert_same(is_pair, {"pair": pair, "setting": on}, {})
        self.assert_same(uneven, {"state": pair[1]}, {})
        self.assert_same(normal, {"state": pair[1]}, {})
        self.assert_same(judge, {"setting": on}, {"base": Setting(), "limit": 9}, [Setting()], rows)
        self.assert_same(partings, {"setting": on}, {"base": Setting(), "limit": 9}, [Setting()], told)
        self.assert_same(failing, {"setting": on}, {"limit": 9}, [9], told)
        self.assert_same(is_closed, {"table": [pair], "setting": on}, {"base": Setting()}, [Setting()])
        for call in (survey, least_harmful, greatest_harmless):
            self.assert_same(call, {}, {"mode": "deaf", "limit": 9}, ["deaf"])
        self.assert_same(fewest_turns, {"setting": on, "turn": Turn("out")}, {"limit": 9}, [9], lambda found: (found[0], [names for names, _ in found[1]]))
        self.assert_same(stands, {"name": "p", "setting": on}, {"limit": 9}, [9])
        self.assert_same(Turn(kind="quiet"), {"names": ["p"]}, {})
        self.assertEqual(event_text(event=("size", "t", 0)), "size t 0")

    def test_methods(self):
        desk = Desk()
        self.assertEqual(desk.say(command="run"), "nothing")
        self.assertEqual(desk.run(commands=["run", "judge"]), ["nothing", "harmless 1"])
        self.assertEqual(Turn(kind="out")(program=self.PROGRAM, names=("p",)), Turn("out")(self.PROGRAM, ["p"]))

    def test_defaults(self):
        none = Contents()
        self.assertEqual(play(self.PROGRAM, none), play(self.PROGRAM, none, None))
        self.assertEqual(list(play_events(self.PROGRAM, none)), list(play_events(self.PROGRAM, none, setting=Setting())))
        self.assertEqual(Run(self.PROGRAM, none).finish(), Run(self.PROGRAM, none, Setting()).finish())
        for call in (survey, least_harmful, greatest_harmless):
            self.assertEqual(call(self.PROGRAM), call(self.PROGRAM, mode="on", limit=1000))

    def test_refused_by_name(self):
        for call, more in [(Run, {"contents": Contents()}), (play, {"contents": Contents()}), (compare, {"contents": Contents()}), (judge, {}), (partings, {}),
                           (failing, {}), (is_closed, {"table": []}), (fewest_turns, {"turn": Turn("out")}), (stands, {"name": "p"})]:
            with self.assertRaises(NoProbe) as caught:
                call(program=self.PROGRAM, setting=Setting("b", "p", "a"), **more)
            self.assertEqual(caught.exception.name, "a")
