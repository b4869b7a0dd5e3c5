"""A shell: a desk that takes commands, lines of text."""

from letterrules.answers.answers import answer
from letterrules.base.letters import is_name
from letterrules.desk.desk import Desk
from letterrules.errors import InvalidCommand, InvalidOperation, NothingToUndo, ParseError, TooMany, UnknownName
from letterrules.text.formats import format_marking, format_rule, parse_marking, parse_rule, parse_run

LINE_END = " / "
NO_NAMES = "-"
MAX_DIGITS = 40
STEPS = {"rule": ("name", "text"), "drop": ("name",), "mark": ("text",), "undo": ("many",), "redo": ("many",)}
ASKS = {
    "show": ("name",), "marking": (), "answer": ("name",), "names": (), "kept": (), "breaks": ("text",), "least": (),
}


def _is_many(part):
    """Return whether a part of a line is an integer as commands tell it."""
    if not part.isascii() or not part.isdigit() or len(part) > MAX_DIGITS:
        return False
    return part == "0" or part[0] != "0"


def _fits(form, part):
    """Return whether a part of a line has the form that is asked for."""
    if form == "name":
        return is_name(part)
    return _is_many(part) if form == "many" else part != ""


def _command_in(line):
    """Return the word of a command and its further parts; refuse what is not a command."""
    if not isinstance(line, str) or "\n" in line:
        raise InvalidCommand("this is not a line")
    word = line.split(" ")[0]
    if word not in STEPS and word not in ASKS:
        raise InvalidCommand("no command has this word")
    forms = () if line == "answer" else STEPS.get(word, ASKS.get(word))
    first, *parts = line.split(" ", len(forms))
    if first != word or len(parts) != len(forms) or not all([_fits(*pair) for pair in zip(forms, parts)]):
        raise InvalidCommand("the command has other parts")
    return word, parts


def _value_text(text):
    """Return the text that stands in a line for a value."""
    return text.replace(LINE_END, "\n")


def _line_text(text):
    """Return a text as it stands in a line."""
    return text.replace("\n", LINE_END)


def _names_text(names):
    """Return the text of some names."""
    return " ".join(names) if names else NO_NAMES


class Shell:
    """A desk, and the lines that were run to make its steps."""

    def __init__(self):
        self._desk = Desk()
        self._lines = ()

    @classmethod
    def of_log(cls, log):
        """Return a new shell in which the lines of a log were run."""
        if not isinstance(log, tuple):
            raise InvalidOperation("these are not lines in a tuple")
        made = cls()
        for line in log:
            many = len(made._lines)
            made.tried(line)
            if len(made._lines) == many:
                raise InvalidOperation("a line is none of a log, or raises an error")
        return made

    @property
    def log(self):
        """The lines that made a step, undid steps or made them again."""
        return self._lines

    def do(self, line):
        """Run a command, and return its result."""
        word, parts = _command_in(line)
        if word in ASKS:
            return self._told(word, parts)
        result = self._changed(word, parts)
        self._lines = (*self._lines, line)
        return result

    def results(self, lines):
        """Yield the results of the lines of a tuple, each of which is run when its result is asked for."""
        if not isinstance(lines, tuple):
            raise InvalidOperation("these are not lines in a tuple")
        for line in lines:
            result = self.do(line)
            yield result

    def tried(self, line):
        """Run a command, and return its result, or the name of its error behind a sign."""
        try:
            return self.do(line)
        except InvalidCommand:
            return "! InvalidCommand"
        except ParseError:
            return "! ParseError"
        except UnknownName:
            return "! UnknownName"
        except TooMany:
            return "! TooMany"
        except NothingToUndo:
            return "! NothingToUndo"

    def copied_desk(self):
        """Return a twin of the desk."""
        return self._desk.twin()

    def __eq__(self, other):
        return isinstance(other, Shell) and self._desk == other._desk

    def _changed(self, word, parts):
        """Run a command that can change the desk, and return the answer behind it."""
        desk = self._desk
        if word == "rule":
            return desk.put(parts[0], parse_rule(_value_text(parts[1])))
        if word == "drop":
            return desk.drop(parts[0])
        if word == "mark":
            return desk.choose(parse_marking(_value_text(parts[0])))
        many = int(parts[0])
        return desk.undo(many) if word == "undo" else desk.redo(many)

    def _told(self, word, parts):
        """Run a command that asks for something, and return what the desk tells."""
        desk = self._desk
        if word == "show":
            return _line_text(format_rule(desk[parts[0]]))
        if word == "marking":
            return _line_text(format_marking(desk.marking))
        if word == "answer":
            return answer(desk[parts[0]]) if parts else desk.answer
        if word == "least":
            return " | ".join([format_marking(marking) for marking in desk.least()])
        if word == "breaks":
            return _names_text(desk(parse_run(_value_text(parts[0]))))
        return _names_text(desk.kept() if word == "kept" else desk.names)
