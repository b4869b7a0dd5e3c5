"""[18.2]: shells."""

import unittest

from letterrules.base.letters import new_names
from letterrules.desk.desk import Desk
from letterrules.desk.shell import Shell
from letterrules.errors import InvalidCommand, InvalidOperation, NothingToUndo, ParseError, TooMany, UnknownName
from letterrules.marks.known import Marking
from letterrules.rules.patterns import Pattern, Rule
from letterrules.runs.runs import Run
from letterrules.text.formats import format_rule, format_run
from support import CROSS, LAST, OVERTAKE, STALE, VALUES, Case

STALE_TEXT = "x order, y report | y.read < x.read, x.send < y.send | x.read = y.read"
CROSS_TEXT = "x *, y * | x.send < y.read, y.send < x.read | -"
OVERTAKE_TEXT = "x *, y * | y.read < x.read, x.send < y.send | x.read = y.read, x.send = y.send"
LAST_LINE = format_run(LAST).replace("\n", " / ")
NAMES = new_names(20)


def told(*lines):
    """A shell in which some lines were run."""
    shell = Shell()
    for line in lines:
        shell.do(line)
    return shell


class CommandTests(Case):
    def test_each_command(self):
        shell = Shell()
        for line, wanted in (
            ("names", "-"), ("answer", "nothing"), ("kept", "-"), ("least", "other nothing"), ("marking", "other nothing"),
            (f"breaks {LAST_LINE}", "-"),
            (f"rule stale {STALE_TEXT}", "notes"), (f"rule b {CROSS_TEXT} / {STALE_TEXT}", "letters"), (f"rule c {OVERTAKE_TEXT}", "letters"),
            ("names", "b c stale"), ("answer", "letters"), ("answer stale", "notes"), ("answer b", "letters"), ("answer c", "numbers"),
            ("show stale", STALE_TEXT), ("show b", f"{CROSS_TEXT} / {STALE_TEXT}"),
            ("kept", "-"), ("mark other numbers", "letters"), ("kept", "c"), ("marking", "other numbers"),
            ("mark other notes, a nothing", "letters"), ("kept", "-"), ("marking", "other notes, a nothing"),
            ("least", "other notes"), (f"breaks {LAST_LINE}", "b stale"),
            ("breaks row p", "-"), ("drop b", "notes"), ("undo 1", "letters"), ("redo 1", "notes"), ("undo 0", "notes"), ("redo 0", "notes"),
            ("undo 6", "nothing"), ("names", "-"), ("redo 3", "letters"), ("names", "b c stale"), ("marking", "other nothing"),
            ("redo 2", "letters"), ("answer", "letters"), (f"rule answer {OVERTAKE_TEXT}", "letters"), ("answer answer", "numbers"),
            (f"rule rule {OVERTAKE_TEXT}", "letters"), ("show rule", OVERTAKE_TEXT), ("drop drop", "! UnknownName"), ("drop rule", "letters"),
        ):
            self.same(shell.tried(line), wanted)
        self.same(shell.copied_desk().names, ("answer", "b", "c", "stale"))

    def test_the_same_as_a_desk(self):
        shell, desk = Shell(), Desk()
        for rule, name in ((Rule(CROSS), "a"), (Rule(STALE, OVERTAKE), "b"), (Rule(STALE), "a")):
            line = f"rule {name} " + format_rule(rule).replace("\n", " / ")
            self.same(shell.do(line), desk.put(name, rule))
        self.same(shell.do("mark other nothing, order notes"), desk.choose(Marking(order="notes")))
        self.same(shell.do("drop b"), desk.drop("b"))
        self.same(shell.do("undo 2"), desk.undo(2))
        self.same(shell.do("redo 1"), desk.redo())
        self.assertEqual(shell.copied_desk(), desk)
        self.same((shell.copied_desk().steps, desk.steps), (4, 4))

    def test_several_least_markings(self):
        lines = "x *, y k, z l | y.read < x.read, z.read < x.read, x.send < y.send, x.send < z.send | "
        shell = told(f"rule a {lines}x.read = y.read = z.read, x.send = y.send = z.send")
        self.same(shell.do("least"), "other nothing, l numbers | other nothing, k numbers")

    def test_what_is_no_command(self):
        shell = told(f"rule a {STALE_TEXT}")
        before, log = shell.copied_desk(), shell.log
        for line in ("", " ", "rule", "rule ", "rule a", "rule a ", f"rule  a {CROSS_TEXT}", f"rule A {CROSS_TEXT}", f"rule abcdefghi {CROSS_TEXT}",
                     f" rule b {CROSS_TEXT}", f"Rule b {CROSS_TEXT}", "drop", "drop ", "drop  a", "drop a ", "drop A", "drop a b",
                     "mark", "mark ", "undo", "undo ", "undo -1", "undo +1", "undo 01", "undo 00", "undo 1 ", "undo  1", "undo 1 1", "undo one",
                     f"undo {'9' * 41}", f"redo {'1' * 41}", "redo", "redo 1.0", "redo 007", "undo 1_0", "show", "show ", "show a b", "show  a", "show A",
                     "marking ", "marking a", " marking", "answer ", "answer  a", "answer a b", "answer A", "names a", "names ", "kept ", "kept a",
                     "breaks", "breaks ", "least ", "least a", "list", "put a", "undo 1\n", "names\n", "\nnames", f"rule b {CROSS_TEXT}\n{STALE_TEXT}",
                     "breaks row p\nrow q", "mark other nothing\n", "name", "namess", "answer -", "drop -"):
            self.fails(InvalidCommand, shell.do, line)
            self.same(shell.tried(line), "! InvalidCommand")
        for value in VALUES:
            self.fails(InvalidCommand, shell.do, value)
            self.same(shell.tried(value), "! InvalidCommand")
        self.assertEqual(shell.copied_desk(), before)
        self.same(shell.log, log)

    def test_texts_that_cannot_be_read(self):
        shell = told(f"rule a {STALE_TEXT}")
        before = shell.copied_desk()
        for line in ("rule b x", "rule b -", f"rule b {CROSS_TEXT} ", f"rule b {CROSS_TEXT} /", f"rule b {CROSS_TEXT}/{STALE_TEXT}",
                     f"rule b {CROSS_TEXT} /  {STALE_TEXT}", f"rule b {CROSS_TEXT} / {CROSS_TEXT}", f"rule b a {CROSS_TEXT}", "mark nothing",
                     "mark other much", "mark other nothing, order nothing", "mark other  nothing", "mark other nothing ", "breaks -", "breaks row p row q",
                     "breaks row q / row p", f"breaks {LAST_LINE} / row z / row z", "breaks letter a k p q", f"rule b {CROSS_TEXT.replace(', ', ',  ')}"):
            self.fails(ParseError, shell.do, line)
            self.same(shell.tried(line), "! ParseError")
        self.assertEqual(shell.copied_desk(), before)
        self.same(len(shell.log), 1)

    def test_errors_of_the_methods(self):
        shell = told(f"rule a {STALE_TEXT}")
        for line in ("drop b", "show b", "answer b"):
            self.fails_with(UnknownName, "b", shell.do, line)
            self.same(shell.tried(line), "! UnknownName")
        self.fails_with(NothingToUndo, 2, shell.do, "undo 2")
        self.fails_with(NothingToUndo, 10 ** 40 - 1, shell.do, f"undo {'9' * 40}")
        self.fails_with(NothingToUndo, 1, shell.do, "redo 1")
        self.same([shell.tried("undo 2"), shell.tried("redo 1")], ["! NothingToUndo"] * 2)
        for name in NAMES[1:12]:
            shell.do(f"rule {name} {CROSS_TEXT}")
        self.fails_with(TooMany, 12, shell.do, f"rule zz {CROSS_TEXT}")
        self.fails(ParseError, shell.do, "rule zz x")
        self.same((shell.tried(f"rule zz {CROSS_TEXT}"), shell.tried(f"rule b {STALE_TEXT}")), ("! TooMany", "letters"))
        shell = told("rule a a *, b *, c *, d *, e * | - | -")
        run = Run({name: ("k", "p", "q") for name in NAMES[:16]}, {"p": tuple(("send", name) for name in NAMES[:16])})
        line = "breaks " + format_run(run).replace("\n", " / ")
        self.fails_with(TooMany, 1000000, shell.do, line)
        self.same((shell.tried(line), shell.do(line.replace(" k p q", " other p q"))), ("! TooMany", "-"))
        kinds = [f"rule {name} x {'/'.join(sorted(row[:3]))}, y {'/'.join(sorted(row[3:]))} | y.read < x.read, x.send < y.send | "
                 "x.read = y.read, x.send = y.send" for name, row in (("b", NAMES[:6]), ("c", NAMES[6:12]))]
        shell = told(*kinds)
        self.fails_with(TooMany, 8, shell.do, "least")
        self.same((shell.tried("least"), shell.do("drop c"), shell.do("least")),
                  ("! TooMany", "numbers", "other nothing, d numbers, e numbers, f numbers"))


class LogTests(Case):
    LINES = (f"rule a {STALE_TEXT}", "mark other notes", "undo 2", "redo 1", "undo 0", "redo 0", f"rule b {CROSS_TEXT}", "drop a")

    def test_log(self):
        shell = Shell()
        self.same(shell.log, ())
        for line in ("names", *self.LINES[:3], "show b", "undo 1", "marking", *self.LINES[3:], "kept", "least", "answer", "answer b", "drop zz",
                     f"breaks {LAST_LINE}", "rule c x", "undo 9"):
            shell.tried(line)
        self.same(shell.log, self.LINES)
        self.fails(AttributeError, setattr, shell, "log", ())

    def test_of_log(self):
        shell = told(*self.LINES)
        again = Shell.of_log(shell.log)
        self.assertTrue(again == shell and again is not shell)
        self.same(again.log, self.LINES)
        self.same((again.do("undo 2"), again.copied_desk().names), (shell.do("undo 2"), ("a",)))
        self.same((Shell.of_log(()).log, Shell.of_log(()) == Shell()), ((), True))
        for line in ("names", "kept", "marking", "answer", "answer a", "least", "show a", "breaks row p", "no command", "", "undo 1\n", "drop zz",
                     "undo 9", "redo 1", "rule c x", "mark x", "undo 01", f"rule c {CROSS_TEXT} "):
            self.fails(InvalidOperation, Shell.of_log, (*self.LINES, line))
            self.fails(InvalidOperation, Shell.of_log, (line, *self.LINES))
        for value in VALUES:
            if value != ():
                self.fails(InvalidOperation, Shell.of_log, value)
            self.fails(InvalidOperation, Shell.of_log, (*self.LINES, value))
        self.fails(InvalidOperation, Shell.of_log, list(self.LINES))

    def test_results(self):
        shell = Shell()
        found = shell.results(("names", f"rule a {STALE_TEXT}", "names", "drop b", "drop a"))
        self.same((shell.log, next(found), next(found), len(shell.log)), ((), "-", "notes", 1))
        shell.do(f"rule b {CROSS_TEXT}")
        self.same(next(found), "a b")
        self.same((next(found), len(shell.log), next(found), list(found)), ("notes", 3, "nothing", []))
        broken = shell.results(("names", "drop zz", "names"))
        self.same(next(broken), "-")
        self.fails_with(UnknownName, "zz", next, broken)
        self.same(list(broken), [])
        for value in VALUES:
            if not isinstance(value, tuple):
                later = shell.results(value)
                self.fails(InvalidOperation, next, later)
        self.same((list(shell.results(())), list(shell.results(("answer", "undo 1")))), ([], ["nothing", "notes"]))
        later = shell.results(("names", 5))
        self.same(next(later), "b" if "b" in shell.copied_desk() else "a")
        self.fails(InvalidCommand, next, later)

    def test_copied_desk(self):
        shell = told(f"rule a {STALE_TEXT}", f"rule b {CROSS_TEXT}")
        desk = shell.copied_desk()
        self.same((type(desk), desk.names, desk.steps, desk.undo()), (Desk, ("a", "b"), 2, "notes"))
        desk.drop("a")
        self.same(shell.do("names"), "a b")
        shell.do("drop a")
        self.same(desk.names, ())

    def test_equal(self):
        one = told(f"rule a {STALE_TEXT}", "mark other notes")
        other = told("mark other notes", f"rule b {CROSS_TEXT}", f"rule a {STALE_TEXT}", "drop b")
        self.assertTrue(one == other and not one != other)
        other.do("undo 1")
        self.assertTrue(one != other and not one == other)
        self.assertTrue(Shell() == Shell() and Shell() == told("undo 0") and one != Shell())
        for value in (*VALUES, one.copied_desk(), one.log):
            self.assertTrue(one != value and not one == value)
        self.fails(TypeError, iter, one)


if __name__ == "__main__":
    unittest.main()
