"""A desk, to which commands are said [29]."""

from quietprobes.checks import is_name
from quietprobes.comparing import compare
from quietprobes.contents import Contents
from quietprobes.errors import BadCommand, NoProbe
from quietprobes.programs import Program
from quietprobes.runs import event_text, play
from quietprobes.sets import greatest_harmless, least_harmful
from quietprobes.settings import MODES, Setting
from quietprobes.turning import KINDS, Turn, fewest_turns
from quietprobes.verdicts import failing, judge

# What stands behind the first word of a command. A text is all that follows, and is not empty.
FORMS = {
    "program": ("text",),
    "mode": ("name", "mode"),
    "base": ("name", "mode"),
    "contents": ("text",),
    "run": (),
    "compare": (),
    "judge": (),
    "failing": (),
    "least": ("deaf or on",),
    "greatest": ("deaf or on",),
    "turns": ("kind",),
    "chart": (),
}


class Desk:
    """A program, a setting, a base and contents."""

    def __init__(self):
        self.program = Program([], ("main", ()))
        # A setting is never changed here: a command puts another one in its place.
        self.setting = Setting()
        self.base = Setting()
        self.contents = Contents()

    def say(self, command):
        """Do a command, and return the answer."""
        words = _words_of(command)
        action = ACTIONS[words[0]]
        rest = words[1:]
        return action(self, *rest)

    def run(self, commands):
        """Say one command after another, and return the answers; an error takes all of them back."""
        program, setting, base, contents = self.program, self.setting, self.base, self.contents
        answers = None
        try:
            answers = [self.say(command) for command in commands]
        finally:
            if answers is None:
                self.program, self.setting, self.base, self.contents = program, setting, base, contents
        return answers


def _words_of(command):
    """The words of a command, a text as one of them [BadCommand of any object that is no command]."""
    if not isinstance(command, str):
        raise BadCommand(command)
    first, _, rest = command.partition(" ")
    words = [first, rest] if FORMS.get(first) == ("text",) else command.split(" ")
    forms = FORMS.get(first, ())
    if first not in FORMS or len(words) != len(forms) + 1:
        raise BadCommand(command)
    if not all([_fits(form, word) for form, word in zip(forms, words[1:])]):
        raise BadCommand(command)
    return words


def _fits(form, word):
    """Whether a word can stand where FORMS has this form."""
    if form == "text":
        return word != ""
    if form == "name":
        return is_name(word)
    if form == "mode":
        return word in MODES
    if form == "kind":
        return word in KINDS
    return word in (Setting.DEAF, Setting.ON)


def _put_program(desk, text):
    # A line feed separates no lines here, and no line has one: any other character that no line has stands for it.
    lines = text.replace("\n", "~").replace(" ; ", "\n")
    desk.program = Program.read(lines)
    desk.setting = Setting()
    desk.base = Setting()
    return f"ok {len(desk.program)}"


def _put_mode(desk, name, mode):
    desk.setting = _changed(desk, desk.setting, name, mode)
    return "ok"


def _put_base(desk, name, mode):
    desk.base = _changed(desk, desk.base, name, mode)
    return "ok"


def _changed(desk, setting, name, mode):
    """A setting with another mode of a probe of the program [NoProbe]."""
    if name not in desk.program:
        raise NoProbe(name)
    changed = setting.duplicate()
    changed[name] = mode
    return changed


def _put_contents(desk, text):
    desk.contents = Contents.read(text)
    return "ok"


def _run(desk):
    events = play(desk.program, desk.contents, desk.setting)
    return "; ".join([event_text(event) for event in events]) or "nothing"


def _compare(desk):
    parting = compare(desk.program, desk.contents, desk.setting, base=desk.base)
    return "same" if parting is None else f"part {parting.row} {parting.thing} {parting.rows}"


def _judge(desk):
    verdict = judge(desk.program, desk.setting, base=desk.base)
    return f"harmless {len(verdict.pairs)}" if verdict.is_harmless else f"harmful {verdict.rows}"


def _failing(desk):
    return " ".join([name for name, _, _ in failing(desk.program, desk.setting)]) or "none"


def _least(desk, mode):
    return _sets_text(least_harmful(desk.program, mode=mode))


def _greatest(desk, mode):
    return _sets_text(greatest_harmless(desk.program, mode=mode))


def _turns(desk, kind):
    chosen, _ = fewest_turns(desk.program, desk.setting, Turn(kind))
    return _sets_text([] if chosen is None else [chosen])


def _sets_text(sets):
    """The text of some sets of probes."""
    return " ".join(["+".join(names) or "." for names in sets]) or "none"


def _chart(desk):
    lines = []
    for name in desk.program.probes:
        lines.append(f"{name:<8} {desk.setting[name]:>4} {desk.program.row_of(name):>3}")
    return "\n".join(lines)


ACTIONS = {
    "program": _put_program,
    "mode": _put_mode,
    "base": _put_base,
    "contents": _put_contents,
    "run": _run,
    "compare": _compare,
    "judge": _judge,
    "failing": _failing,
    "least": _least,
    "greatest": _greatest,
    "turns": _turns,
    "chart": _chart,
}
