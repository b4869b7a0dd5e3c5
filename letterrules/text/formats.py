"""Texts: each value has exactly one, from which an equal value is read."""

from letterrules.base.letters import are_names, is_name
from letterrules.base.values import are_different
from letterrules.errors import (
    InvalidMarking, InvalidOperation, InvalidPattern, InvalidRule, InvalidRun, ParseError, TooMany,
)
from letterrules.marks.known import Marking, check_marking
from letterrules.rules.patterns import Pattern, Rule, check_pattern, check_rule
from letterrules.runs.runs import Run, check_run

ANY = "*"
NONE = "-"
MOST_PLACED = 5


def _event_text(event):
    """Return the text of an event."""
    word, name = event
    return f"{name}.{word}"


def _kinds_text(kinds):
    """Return the text of the kinds of a letter of a pattern."""
    return ANY if kinds is None else "/".join(kinds)


def _rows_text(rows, sign):
    """Return the text of tuples of events, with a sign between the events of each one."""
    texts = [sign.join([_event_text(event) for event in row]) for row in rows]
    return ", ".join(texts) if texts else NONE


def format_pattern(pattern):
    """Return the text of a pattern."""
    check_pattern(pattern)
    letters = ", ".join([f"{name} {_kinds_text(kinds)}" for name, kinds in pattern.letters.items()])
    return " | ".join([letters, _rows_text(pattern.conditions, " < "), _rows_text(pattern.groups, " = ")])


def format_rule(rule):
    """Return the text of a rule."""
    check_rule(rule)
    return "\n".join([format_pattern(pattern) for pattern in rule.patterns])


def format_run(run):
    """Return the text of a run."""
    check_run(run)
    lines = [" ".join(["letter", name, *letter]) for name, letter in run.letters.items()]
    for process, row in run.rows.items():
        lines.append(" ".join(["row", process, *[_event_text(event) for event in row]]))
    return "\n".join(lines)


def format_marking(marking):
    """Return the text of a marking."""
    check_marking(marking)
    return ", ".join([f"other {marking.other}", *[f"{kind} {marking.word_of(kind)}" for kind in marking.kinds]])


def _is_placing(value):
    """Return whether a value is a dict from one to five names to different names."""
    if not isinstance(value, dict) or not 1 <= len(value) <= MOST_PLACED:
        return False
    names = list(value.values())
    return all([is_name(name) for name in (*value, *names)]) and are_different(names)


def format_placing(placing):
    """Return the text of a placing."""
    if not _is_placing(placing):
        raise InvalidOperation("this is not a placing")
    return ", ".join([f"{name} = {placing[name]}" for name in sorted(placing)])


def _is_step(value):
    """Return whether a value is a word of a step with the names that belong to it."""
    if not isinstance(value, tuple) or not value or not are_names(value[1:]):
        return False
    if value[0] == "wish":
        return len(value) == 5 and value[3] != value[4]
    return len(value) == 2 and value[0] in ("send", "come", "read")


def format_steps(steps):
    """Return the text of steps."""
    if not isinstance(steps, tuple) or not all([_is_step(step) for step in steps]):
        raise InvalidOperation("these are not steps in a tuple")
    return "\n".join([" ".join(step) for step in steps])


def _parts(text, sign, many):
    """Return the parts of a text between signs; refuse another number of them."""
    parts = text.split(sign)
    if len(parts) != many:
        raise ParseError("the text has not so many parts")
    return parts


def _check_text(text):
    """Refuse what is not a text."""
    if not isinstance(text, str):
        raise ParseError("this is not a text")


def _check_same(text, wanted):
    """Refuse a text that is another one than that of the value that it seems to tell."""
    if text != wanted:
        raise ParseError("the value has another text")


def _event_in(text):
    """Return the event that a text seems to tell."""
    name, word = _parts(text, ".", 2)
    return (word, name)


def _rows_in(text, sign):
    """Return the tuples of events that a text seems to tell, with a sign between the events of each one."""
    if text == NONE:
        return ()
    return tuple([tuple([_event_in(part) for part in row.split(sign)]) for row in text.split(", ")])


def _pairs_in(text, sign):
    """Return the dict that a text seems to tell, with a sign between a key and its value."""
    found = {}
    for part in text.split(", "):
        key, value = _parts(part, sign, 2)
        found[key] = value
    return found


def _letters_in(text):
    """Return the kinds by the names of the letters that a text seems to tell."""
    return {name: None if kinds == ANY else tuple(kinds.split("/")) for name, kinds in _pairs_in(text, " ").items()}


def parse_pattern(text):
    """Return the pattern with this text."""
    _check_text(text)
    letters, conditions, groups = _parts(text, " | ", 3)
    try:
        pattern = Pattern.of(_letters_in(letters), _rows_in(conditions, " < "), _rows_in(groups, " = "))
    except InvalidPattern:
        raise ParseError("there is no such pattern") from None
    _check_same(text, format_pattern(pattern))
    return pattern


def parse_rule(text):
    """Return the rule with this text."""
    _check_text(text)
    patterns = [parse_pattern(line) for line in text.split("\n")]
    try:
        return Rule.of(tuple(patterns))
    except InvalidRule:
        raise ParseError("there is no such rule") from None


def _lines_in(text):
    """Return the letters and the rows that the lines of a text seem to tell."""
    letters, rows = {}, {}
    for line in text.split("\n"):
        words = line.split(" ")
        if len(words) < 2 or words[0] not in ("letter", "row"):
            raise ParseError("a line tells neither a letter nor a row")
        if words[0] == "letter":
            letters[words[1]] = tuple(words[2:])
        else:
            rows[words[1]] = tuple([_event_in(word) for word in words[2:]])
    return letters, rows


def parse_run(text):
    """Return the run with this text."""
    _check_text(text)
    letters, rows = _lines_in(text) if text else ({}, {})
    try:
        run = Run(letters, rows)
    except (InvalidRun, TooMany):
        raise ParseError("there is no such run") from None
    _check_same(text, format_run(run))
    return run


def parse_marking(text):
    """Return the marking with this text."""
    _check_text(text)
    try:
        marking = Marking.of(_pairs_in(text, " "))
    except InvalidMarking:
        raise ParseError("there is no such marking") from None
    _check_same(text, format_marking(marking))
    return marking


def parse_placing(text):
    """Return the placing with this text."""
    _check_text(text)
    placing = _pairs_in(text, " = ")
    if not _is_placing(placing):
        raise ParseError("there is no such placing")
    _check_same(text, format_placing(placing))
    return placing


def parse_steps(text):
    """Return the steps with this text."""
    _check_text(text)
    steps = tuple([tuple(line.split(" ")) for line in text.split("\n")]) if text else ()
    if not all([_is_step(step) for step in steps]):
        raise ParseError("there are no such steps")
    return steps
