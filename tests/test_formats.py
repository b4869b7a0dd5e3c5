"""[17.1]: texts."""

import random
import unittest

from letterrules.base.letters import new_names
from letterrules.errors import InvalidMarking, InvalidOperation, InvalidPattern, InvalidRule, InvalidRun, ParseError
from letterrules.marks.known import WORDS, Marking
from letterrules.plays.plays import Play, Transport
from letterrules.rules.patterns import Pattern, Rule
from letterrules.runs.runs import Run
from letterrules.text.formats import (
    format_marking, format_pattern, format_placing, format_rule, format_run, format_steps, parse_marking, parse_pattern,
    parse_placing, parse_rule, parse_run, parse_steps,
)
from support import CROSS, LAST, OVERTAKE, STALE, VALUES, Case, many_patterns, others, run_of, some_run

EXAMPLES = """
>>> [format_pattern(STALE), format_marking(parse_marking("other nothing, report notes")), format_placing({"y": "c", "x": "a"})]
['x order, y report | y.read < x.read, x.send < y.send | x.read = y.read', 'other nothing, report notes', 'x = a, y = c']
>>> [format_run(LAST).split("\\n")[2:5], parse_run(format_run(LAST)) == LAST, parse_pattern("x *, y * | x.send < y.read, y.send < x.read | -") == CROSS]
[['letter c report r q', 'row p a.send b.send', 'row q c.read a.read'], True, True]
"""

PARSERS = (parse_pattern, parse_rule, parse_run, parse_marking, parse_placing, parse_steps)
LAST_TEXT = """letter a order p q
letter b other p r
letter c report r q
row p a.send b.send
row q c.read a.read
row r b.read c.send"""
STEPS = (("wish", "a", "order", "p", "q"), ("send", "a"), ("come", "a"), ("read", "a"), ("wish", "read", "wish", "send", "come"))


class ExampleTests(Case):
    def test_examples(self):
        self.examples(EXAMPLES, dict(globals()))


class TextCase(Case):
    """Each value has a text, and no other text gives it."""

    def check(self, value, text, write, parse):
        self.same(write(value), text)
        found = parse(text)
        self.assertEqual(found, value)
        if isinstance(value, (dict, tuple)):
            self.same(found, dict(sorted(value.items())) if isinstance(value, dict) else value)
        for other in set(self.other_texts(text)) - {text}:
            try:
                found = parse(other)
            except ParseError:
                continue
            # It may be the text of another value.
            self.assertNotEqual(found, value, (text, other))
            self.same(write(found), other)

    def other_texts(self, text):
        """Texts that look alike: with a sign more or fewer, and with parts exchanged or repeated."""
        yield from (f" {text}", f"{text} ", f"{text}\n", f"\n{text}", text.replace(" ", "  "), text.upper(), text.replace("\n", "\n\n"))
        for at in range(len(text)):
            yield text[:at] + text[at + 1:]
            for sign in " \na|,-/.=":
                yield text[:at] + sign + text[at:]
        for sign in (", ", "\n", " | ", " ", "/", " = ", " < "):
            parts = text.split(sign)
            for at in range(len(parts) - 1):
                yield sign.join([*parts[:at], parts[at + 1], parts[at], *parts[at + 2:]])
                yield sign.join([*parts[:at], parts[at], *parts[at:]])

    def refused(self, parse, *texts):
        for text in texts:
            self.fails(ParseError, parse, text)


class PatternTests(TextCase):
    def test_forms(self):
        for pattern, text in (
            (Pattern(x=None), "x * | - | -"),
            (Pattern(x=("b", "a", "cc")), "x a/b/cc | - | -"),
            (CROSS, "x *, y * | x.send < y.read, y.send < x.read | -"),
            (STALE, "x order, y report | y.read < x.read, x.send < y.send | x.read = y.read"),
            (OVERTAKE, "x *, y * | y.read < x.read, x.send < y.send | x.read = y.read, x.send = y.send"),
            (Pattern(conditions=((("send", "x"), ("send", "x")),), x=None), "x * | x.send < x.send | -"),
            (Pattern(groups=((("send", "z"), ("read", "y"), ("read", "x")),), y=("k",), x=None, z=None), "x *, y k, z * | - | x.read = y.read = z.send"),
            (Pattern.of({"self": None, "groups": ("self",)}, (), ()), "groups self, self * | - | -"),
        ):
            self.check(pattern, text, format_pattern, parse_pattern)

    def test_there_and_back(self):
        for pattern in many_patterns(3, 80, kinds=(None, ("k",), ("a", "b", "c", "d"), ("order", "x"))):
            self.assertEqual(parse_pattern(format_pattern(pattern)), pattern)
        for pattern in many_patterns(4, 6, kinds=(None, ("k", "l")), most=3):
            self.check(pattern, format_pattern(pattern), format_pattern, parse_pattern)

    def test_other_texts(self):
        self.refused(parse_pattern, "", "x", "x *", "x * | -", "x * | - | - | -", "x * | - | -\n", " x * | - | -", "x * | - | - ", "x  * | - | -",
                     "x * |  - | -", "x * | - |-", "x * , y * | - | -", "y *, x * | - | -", "x *, x * | - | -", "x k/k | - | -", "x l/k | - | -",
                     "x other | - | -", "x k/other | - | -", "x  | - | -", "x */k | - | -", "x - | - | -", "abcdefghi * | - | -", "X * | - | -",
                     "x a/b/c/d/e | - | -", "a *, b *, c *, d *, e *, f * | - | -", "x abcdefghi | - | -", " * | - | -")
        self.refused(parse_pattern, "x * |  | -", "x * | - | ", "x *, y * | x.send < y.read, x.send < y.read | -",
                     "x *, y * | y.send < x.read, x.send < y.read | -", "x *, y * | x.send | -", "x *, y * | x.send < y.read < y.send | -",
                     "x *, y * | x.send<y.read | -", "x *, y * | x.send < z.read | -", "x *, y * | x.sent < y.read | -",
                     "x *, y * | send.x < y.read | -", "x *, y * | x < y | -", "x *, y * | x.send.a < y.read | -", "x *, y * | -, x.send < y.read | -")
        self.refused(parse_pattern, "x *, y * | - | y.read = x.read", "x *, y * | - | x.read", "x *, y * | - | x.read = x.send",
                     "x *, y * | - | x.read = y.read = y.read", "x *, y * | - | x.read = y.read, x.read = y.send", "x *, y * | - | x.read=y.read",
                     "x *, y * | - | x.send = y.send, x.read = y.read", "x *, y * | - | -, -", "x * | x.send < x.read | x.send < x.read")
        # There is no such pattern: it would have 1152 arrangements.
        letters = "a *, b *, c *, d *, e *"
        self.refused(parse_pattern, f"{letters} | - | a.read = b.read = c.read = d.read, e.read = d.send, a.send = b.send = c.send = e.send")
        self.assertEqual(len(parse_pattern(f"{letters} | - | a.read = b.read = c.read = d.read, a.send = b.send = c.send = e.send")), 5)
        self.assertEqual(len(parse_pattern(f"{letters} | - | a.read = b.read = c.read = d.read, a.send = b.send = c.send")), 5)


class RuleTests(TextCase):
    def test_forms(self):
        for rule in (Rule(CROSS), Rule(STALE, CROSS), Rule(OVERTAKE, STALE, CROSS, Pattern(x=None))):
            text = "\n".join(format_pattern(pattern) for pattern in rule)
            self.same(format_rule(rule), text)
            self.assertEqual(parse_rule(text), rule)
        self.check(Rule(Pattern(x=None), Pattern(x=("k",))), "x * | - | -\nx k | - | -", format_rule, parse_rule)

    def test_other_texts(self):
        line = "x * | - | -"
        six = "\n".join(f"{name} * | - | -" for name in "abcdef")
        self.same(len(parse_rule(six)), 6)
        self.refused(parse_rule, "", "\n", f"{line}\n", f"\n{line}", f"{line}\n\n{six}", f"{line}\n{line}", f"{line} / {six}", f"{six}\n{line}",
                     f"{line}\r\n{six}")


class RunTests(TextCase):
    def test_forms(self):
        self.check(LAST, LAST_TEXT, format_run, parse_run)
        self.check(Run({}, {}), "", format_run, parse_run)
        self.check(Run({}, {"p": (), "a": ()}), "row a\nrow p", format_run, parse_run)
        unread = Run({"b": ("k", "q", "p"), "a": ("other", "p", "q")}, {"q": (("send", "b"),), "p": (("send", "a"),)})
        self.check(unread, "letter a other p q\nletter b k q p\nrow p a.send\nrow q b.send", format_run, parse_run)

    def test_there_and_back(self):
        for seed in range(60):
            run = some_run(random.Random(seed), seed % 7, read=0.6, kinds=("k", "other", "row", "letter"))
            self.assertEqual(parse_run(format_run(run)), run)

    def test_sixty_letters(self):
        names = new_names(61)
        rows = {"p": tuple(("send", name) for name in names[:60])}
        run = Run({name: ("k", "p", "q") for name in names[:60]}, rows)
        text = format_run(run)
        self.assertEqual(parse_run(text), run)
        lines = sorted([*text.split("\n")[:60], f"letter {names[60]} k p q"])
        self.refused(parse_run, "\n".join([*lines, f"{text.split(chr(10))[60]} {names[60]}.send", "row q"]))
        rows = "\n".join(f"row {name}" for name in sorted(names[:40]))
        self.same(len(parse_run(rows).processes), 40)
        self.refused(parse_run, "\n".join(f"row {name}" for name in sorted(names[:41])))

    def test_other_texts(self):
        lines = LAST_TEXT.split("\n")
        self.refused(parse_run, "\n", " ", "row", "row ", "letter", "letter a", "row p\n", "row q\nrow p", "row p\nrow p", "line p", "Row p", "row P",
                     "row p a.send", "row p  a.send", "row p a", "row p a.sent", "row p send.a", "letter a order p q", "letter a order p p\nrow p a.send",
                     "letter a order p q\nrow p a.send", "letter a order p q\nrow p\nrow q", "letter a order p q r\nrow p a.send\nrow q",
                     "row p a.send\nletter a order p q\nrow q", "letter a order p q\nrow p a.send a.send\nrow q",
                     "letter a order p q\nrow p a.read\nrow q a.send", "letter a order p q\nletter a order p q\nrow p a.send\nrow q",
                     "letter a k p q\nletter b k q p\nrow p b.read a.send\nrow q a.read b.send")
        for at in range(6):
            self.refused(parse_run, "\n".join([*lines[:at], *lines[at + 1:]]), "\n".join([*lines[:at], lines[at], *lines[at:]]))
        self.refused(parse_run, "\n".join([lines[1], lines[0], *lines[2:]]), "\n".join([*lines[3:], *lines[:3]]), LAST_TEXT.replace("\n", " / "))


class MarkingTests(TextCase):
    def test_forms(self):
        for marking, text in (
            (Marking(), "other nothing"), (Marking.even("notes"), "other notes"),
            (Marking(order="numbers"), "other nothing, order numbers"), (Marking(order="nothing"), "other nothing"),
            (Marking(other="notes", z="nothing", a="numbers", m="notes"), "other notes, a numbers, z nothing"),
            (Marking.of({"self": "notes", "other": "numbers"}), "other numbers, self notes"),
        ):
            self.check(marking, text, format_marking, parse_marking)

    def test_there_and_back(self):
        for seed in range(60):
            chance = random.Random(seed)
            marking = Marking.of({kind: chance.choice(WORDS) for kind in ("k", "other", "a", "zz", "notes") if chance.random() < 0.6})
            self.assertEqual(parse_marking(format_marking(marking)), marking)

    def test_other_texts(self):
        self.refused(parse_marking, "", "other", "other ", "nothing", "other  nothing", " other nothing", "other nothing ", "other nothing\n",
                     "order notes", "order notes, other nothing", "other nothing, order nothing", "other notes, order notes", "other much",
                     "other nothing, order notes, order notes", "other nothing, order notes, order numbers", "other nothing, z notes, a notes",
                     "other nothing,order notes", "other nothing, Order notes", "other nothing, order notes,", "other nothing, abcdefghi notes",
                     "other nothing, other nothing", "other nothing, other notes", "other nothing order notes", "other nothing\norder notes")


class PlacingTests(TextCase):
    def test_forms(self):
        for placing, text in (
            ({"x": "a"}, "x = a"), ({"y": "c", "x": "a"}, "x = a, y = c"), ({"x": "x", "a": "y"}, "a = y, x = x"),
            ({"e": "a", "d": "b", "c": "c", "b": "d", "a": "e"}, "a = e, b = d, c = c, d = b, e = a"),
        ):
            self.check(placing, text, format_placing, parse_placing)
        self.same(list(parse_placing("b = a, c = b")), ["b", "c"])

    def test_wrong_values(self):
        for value in (*VALUES, {"x": "A"}, {"X": "a"}, {"x": "a", "y": "a"}, {"x": None}, {5: "a"}, {"x": ["a"]}, {("x",): "a"}, [("x", "a")],
                      {name: name for name in "abcdef"}, {"x": "a", None: "b"}, {"x": "a", "y": 5}):
            if value != {"a": "b"}:
                self.fails(InvalidOperation, format_placing, value)

    def test_other_texts(self):
        self.refused(parse_placing, "", "x", "x =", "x = ", " = a", "x=a", "x = a,y = b", "y = a, x = b", "x = a, y = a", "x = a, x = a", "x = a, x = b",
                     "x = a = b", "x = A", "x  = a", "x = a ", "x = a\n", "x = a\ny = b", "a = a, b = b, c = c, d = d, e = e, f = f",
                     "x = abcdefghi")


class StepTests(TextCase):
    def test_forms(self):
        for steps, text in (
            ((), ""), ((("send", "a"),), "send a"),
            (STEPS, "wish a order p q\nsend a\ncome a\nread a\nwish read wish send come"),
            ((("read", "b"), ("read", "b")), "read b\nread b"),
        ):
            self.check(steps, text, format_steps, parse_steps)
        many = tuple(("send", name) for name in new_names(500)) * 3
        self.same(parse_steps(format_steps(many)), many)

    def test_steps_of_plays(self):
        play = Play(Transport(Marking()), "p", "q")
        play.do_all(STEPS[:4])
        again = Play(Transport(Marking()), "p", "q")
        again.do_all(parse_steps(format_steps(play.steps)))
        self.assertEqual(again, play)

    def test_wrong_values(self):
        for value in VALUES:
            if value not in ((), (("send", "a"),)):
                self.fails(InvalidOperation, format_steps, value)
            if value not in (("send", "a"),):
                self.fails(InvalidOperation, format_steps, (("send", "a"), value))
        for step in ((), ("send",), ("send", "A"), ("send", "a", "b"), ("sent", "a"), ("wish", "a"), ("wish", "a", "k", "p", "p"),
                     ("wish", "a", "k", "p"), ("wish", "a", "k", "p", "q", "r"), ("wish", "a", "K", "p", "q"), ("act", "p"), ("hear", 0),
                     ["send", "a"], (["send"], "a"), ("send", ["a"]), (5, "a"), (True, "a")):
            self.fails(InvalidOperation, format_steps, (step,))

    def test_other_texts(self):
        self.refused(parse_steps, " ", "\n", "send", "send ", "send  a", "send a ", " send a", "send a\n", "\nsend a", "send a\n\nsend b", "Send a", "send A",
                     "send a b", "wish a", "wish a k p p", "wish a k p", "wish a k p q r", "act p", "hear 0", "send a, read a", "tell q word")


class ErrorTests(TextCase):
    def test_values_that_are_no_texts(self):
        for value in VALUES:
            for parse in PARSERS:
                if value == "" and parse in (parse_run, parse_steps):
                    continue
                self.fails(ParseError, parse, value)
        for parse in PARSERS:
            for value in (("other nothing",), ["x = a"], {"x": "a"}, "x" * 10000, "\n" * 10000, ", " * 5000, " | " * 3333, "/" * 10000, "row p\n" * 1600,
                          "x k, " * 2000, "send." * 2000):
                self.fails(ParseError, parse, value)

    def test_values_of_other_kinds(self):
        for value in others(Pattern):
            self.fails(InvalidPattern, format_pattern, value)
        for value in others(Rule):
            self.fails(InvalidRule, format_rule, value)
        for value in others(Run):
            self.fails(InvalidRun, format_run, value)
        for value in others(Marking):
            self.fails(InvalidMarking, format_marking, value)

    def test_one_text_for_equal_values(self):
        self.same(format_run(run_of("p +a, q -a")), format_run(Run({"a": ("k", "p", "q")}, {"q": (("read", "a"),), "p": (("send", "a"),)})))
        self.same(format_pattern(Pattern(x=("b", "a", "b"))), format_pattern(Pattern(x=("a", "b"))))
        self.same(format_marking(Marking(k="nothing")), format_marking(Marking()))


if __name__ == "__main__":
    unittest.main()
