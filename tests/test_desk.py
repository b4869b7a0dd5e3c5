"""[18.1]: desks."""

import random
import unittest

from letterrules.answers.answers import ANSWERS, answer
from letterrules.base.letters import new_names
from letterrules.desk.desk import MAX_RULES, Desk
from letterrules.errors import (
    InvalidMarking, InvalidName, InvalidNumber, InvalidOperation, InvalidRule, InvalidRun, NothingToUndo, TooMany, UnknownName,
)
from letterrules.marks.known import WORDS, Marking
from letterrules.marks.least import keeps, least_markings
from letterrules.rules.breaks import breaks
from letterrules.rules.patterns import Pattern, Rule
from letterrules.runs.runs import Run
from support import CROSS, HUGE, LAST, OVERTAKE, STALE, VALUES, Case, many_patterns, others, some_run

NAMES = new_names(40)
FLUSH = Pattern(conditions=OVERTAKE.conditions, groups=OVERTAKE.groups, x=("order",), y=("report",))
FREE = Pattern(x=None, conditions=((("send", "x"), ("send", "x")),))
NEVER = Pattern(x=None)
RULES = tuple(Rule(pattern) for pattern in (FREE, FLUSH, OVERTAKE, STALE, CROSS, NEVER))


class Failure(Exception):
    """An error of its own."""


def fail(*parts):
    raise Failure(parts)


def state_of(desk):
    """All that can be asked of a desk, its steps taken back and made again included."""
    scenes = [({name: desk[name] for name in desk}, desk.marking, desk.answer, desk.steps)]
    with desk.trial():
        while desk.steps:
            desk.undo()
            scenes.append(({name: desk[name] for name in desk}, desk.marking))
        while True:
            try:
                desk.redo()
            except NothingToUndo:
                return scenes
            scenes.append(({name: desk[name] for name in desk}, desk.marking))


def least_of_all(rules):
    """The least markings that keep all rules that some marking keeps, by trying all markings of their kinds."""
    rules = [rule for rule in rules if answer(rule) in ("nothing", "numbers", "notes")]
    kinds = ("other", *sorted({kind for rule in rules for kind in rule.kinds}))
    rows = [()]
    for _ in kinds:
        rows = [(*row, word) for row in rows for word in WORDS]
    found = [Marking.of(dict(zip(kinds, row))) for row in rows]
    found = [one for one in found if all(keeps(rule, one) for rule in rules)]
    return tuple(one for one in found if not any(other != one and other.is_at_most(one) for other in found))


class DeskTests(Case):
    def test_plain(self):
        self.same(MAX_RULES, 12)
        desk = Desk()
        self.same((desk.names, desk.answer, desk.steps, len(desk), list(desk), bool(desk)), ((), "nothing", 0, 0, [], False))
        self.same((desk.marking == Marking(), str(desk), desk(LAST), desk.kept()), (True, "desk with 0 rules, answer nothing", (), ()))
        self.assertEqual(desk.least(), (Marking(),))
        desk = Desk(b=Rule(STALE), a=Rule(OVERTAKE))
        self.same((desk.names, desk.answer, desk.steps, len(desk), list(desk), bool(desk)), (("a", "b"), "notes", 0, 2, ["a", "b"], True))
        self.same(str(desk), "desk with 2 rules, answer notes")
        self.assertEqual((desk["a"], desk["b"]), (Rule(OVERTAKE), Rule(STALE)))
        for name in ("names", "marking", "answer", "steps"):
            self.fails(AttributeError, setattr, desk, name, 5)

    def test_of(self):
        rules = {"b": Rule(STALE), "a": Rule(OVERTAKE)}
        self.assertEqual(Desk.of(rules), Desk(**rules))
        self.assertEqual(Desk.of({}), Desk())
        for name in ("self", "cls", "rules", "rule", "name", "marking"):
            desk = Desk.of({name: Rule(CROSS), "a": Rule(STALE)})
            self.assertIsInstance(desk, Desk)
            self.same((desk.names, desk.answer, desk.drop(name), desk.undo(), desk.names), (tuple(sorted(("a", name))), "letters", "notes", "letters",
                                                                                            tuple(sorted(("a", name)))))
            self.assertEqual(desk, Desk(a=Rule(STALE)).joined(Desk.of({name: Rule(CROSS)})))
        rules.clear()
        desk = Desk.of(rules)
        rules["a"] = Rule(CROSS)
        self.same(len(desk), 0)

    def test_errors(self):
        for value in others(dict):
            self.fails(InvalidRule, Desk.of, value)
        for value in (*others(Rule, dict), {}):
            self.fails(InvalidRule, Desk, a=value)
            self.fails(InvalidRule, Desk, a=Rule(CROSS), b=value)
            self.fails(InvalidRule, Desk.of, {"self": value, "a": Rule(CROSS)})
        for name in ("", "A", "a_b", "abcdefghi", "a b"):
            self.fails(InvalidName, Desk, **{"a": 5, name: Rule(CROSS)})
            self.fails(InvalidName, Desk.of, {"a": 5, name: Rule(CROSS)})
            self.fails(InvalidName, Desk.of, {"self": 5, name: Rule(CROSS)})
        for value in (5, None, True, ("a",), 0):
            self.fails(InvalidName, Desk.of, {"a": 5, value: 5})
        many = {name: Rule(CROSS) for name in NAMES[:13]}
        self.fails_with(TooMany, 12, Desk, **many)
        self.fails_with(TooMany, 12, Desk.of, many)
        self.fails_with(TooMany, 12, Desk.of, {**many, "self": Rule(CROSS)})
        self.fails(InvalidRule, Desk.of, {**many, "zz": 5})
        self.fails(InvalidName, Desk.of, {**many, "zz": 5, "A": 5})
        del many["c"]
        self.same(len(Desk(**many)), 12)

    def test_rules_by_name(self):
        desk = Desk(a=Rule(STALE))
        for value in VALUES:
            if value != "a":
                self.fails_with(UnknownName, value, lambda: desk[value])
                self.fails_with(UnknownName, value, desk.drop, value)
            self.assertIs(value in desk, value == "a")
        self.assertIs(["a"] in desk, False)

    def test_answers(self):
        for seed in range(30):
            chance = random.Random(seed)
            rules = {name: chance.choice(RULES) for name in chance.sample(NAMES, seed % 6)}
            desk = Desk(**rules)
            wanted = max((answer(rule) for rule in rules.values()), key=ANSWERS.index, default="nothing")
            self.same((desk.answer, str(desk)), (wanted, f"desk with {len(rules)} rules, answer {wanted}"))
            self.same(desk.names, tuple(sorted(rules)))
            for marking in (Marking(), Marking.even("numbers"), Marking.even("notes"), Marking(report="numbers")):
                self.same(desk.choose(marking), wanted)
                self.assertEqual(desk.marking, marking)
                self.same(desk.kept(), tuple(name for name in desk if keeps(rules[name], marking)))
            self.assertEqual(desk.least(), least_of_all(list(rules.values())))

    def test_least(self):
        desk = Desk(a=Rule(FLUSH), b=Rule(CROSS), c=Rule(NEVER))
        self.assertEqual(desk.least(), least_markings(Rule(FLUSH)))
        # Each of two letters in front of the first one can tell of it; kinds of rules that no marking keeps do not count.
        both = Pattern(conditions=((("send", "x"), ("send", "y")), (("send", "x"), ("send", "z")), (("read", "y"), ("read", "x")),
                                   (("read", "z"), ("read", "x"))), groups=((("send", "x"), ("send", "y"), ("send", "z")),
                                                                            (("read", "x"), ("read", "y"), ("read", "z"))),
                       x=None, y=("k",), z=("l",))
        crowd = Rule(*(CROSS.with_letter("x", *NAMES[at:at + 4]).with_letter("y", *NAMES[at + 4:at + 8]) for at in (0, 8, 16)))
        desk = Desk(a=Rule(both), c=crowd)
        self.assertEqual(desk.least(), (Marking(l="numbers"), Marking(k="numbers")))
        self.assertEqual(desk.least(), least_of_all([Rule(both)]))
        desk.put("d", Rule(FLUSH))
        self.assertEqual(desk.least(), (Marking(l="numbers", report="numbers"), Marking(k="numbers", report="numbers")))
        self.assertEqual(desk.least(), least_of_all([Rule(both), Rule(FLUSH)]))
        for seed in range(6):
            chance = random.Random(seed)
            patterns = list(many_patterns(seed, 8, (None, ("k",), ("l", "m")), most=3))
            rules = [Rule(pattern) for pattern in chance.sample(patterns, 4)]
            self.assertEqual(Desk(**dict(zip("abcd", rules))).least(), least_of_all(rules))

    def test_eight_and_nine_kinds(self):
        def flush(*kinds):
            return Rule(FLUSH.with_letter("x", *kinds[:4]).with_letter("y", *kinds[4:]))

        desk = Desk(a=flush(*NAMES[:8]))
        self.assertEqual(desk.least(), (Marking.of({name: "numbers" for name in NAMES[4:8]}),))
        desk.put("b", Rule(CROSS.with_letter("x", "zz")))
        self.same(len(desk.least()), 1)
        desk.put("c", flush("a", "zz"))
        self.fails_with(TooMany, 8, desk.least)
        desk.put("c", flush("a", "b"))
        self.same(len(desk.least()), 1)

    def test_runs(self):
        desk = Desk(a=Rule(STALE), b=Rule(OVERTAKE), c=Rule(CROSS, STALE), d=Rule(NEVER))
        self.same(desk(LAST), ("a", "c", "d"))
        for seed in range(30):
            run = some_run(random.Random(seed), 4, read=0.7, kinds=("order", "report", "k"))
            self.same(desk(run), tuple(name for name in desk if breaks(run, desk[name])))
        for value in others(Run):
            self.fails(InvalidRun, desk, value)
        five = Rule(Pattern(**{name: None for name in "abcde"}))
        run = Run({name: ("k", "p", "q") for name in NAMES[:16]}, {"p": tuple(("send", name) for name in NAMES[:16])})
        self.same(desk(run), ("c", "d") if breaks(run, Rule(CROSS, STALE)) else ("d",))
        desk.put("e", five)
        self.fails_with(TooMany, 1000000, desk, run)
        desk.put("a", five)
        self.fails_with(TooMany, 1000000, desk, run)
        self.same(desk(run.without("p")), ("a", "d", "e"))


class StepTests(Case):
    def test_put_drop_choose(self):
        desk = Desk()
        self.same([desk.put("b", Rule(STALE)), desk.put("a", Rule(OVERTAKE)), desk.put("b", Rule(OVERTAKE)), desk.steps], ["notes", "notes", "numbers", 3])
        self.same((desk.names, list(desk)), (("a", "b"), ["a", "b"]))
        self.same([desk.drop("a"), desk.names, desk.choose(Marking.even("notes")), desk.marking == Marking.even("notes"), desk.steps],
                  ["numbers", ("b",), "numbers", True, 5])
        self.same([desk.put("b", Rule(OVERTAKE)), desk.choose(Marking.even("notes")), desk.steps], ["numbers", "numbers", 7])
        self.same([desk.drop("b"), desk.names, desk.answer], ["nothing", (), "nothing"])

    def test_errors(self):
        desk = Desk(a=Rule(STALE))
        desk.put("b", Rule(CROSS))
        desk.undo()
        before = state_of(desk)
        for value in (*others(str), "", "A", "a b", "abcdefghi"):
            self.fails(InvalidName, desk.put, value, 5)
            self.fails(InvalidName, desk.put, value, Rule(CROSS))
        for value in others(Rule):
            self.fails(InvalidRule, desk.put, "c", value)
        for value in others(Marking):
            self.fails(InvalidMarking, desk.choose, value)
        self.fails_with(UnknownName, "b", desk.drop, "b")
        self.assertEqual(state_of(desk), before)

    def test_twelve_and_thirteen(self):
        desk = Desk(**{name: Rule(CROSS) for name in NAMES[:12]})
        self.fails_with(TooMany, 12, desk.put, "zz", Rule(STALE))
        self.fails(InvalidRule, desk.put, "zz", STALE)
        self.same((desk.steps, desk.put("c", Rule(NEVER)), desk.steps, desk.drop("a"), desk.put("zz", Rule(FREE)), len(desk)),
                  (0, "never", 1, "never", "never", 12))

    def test_undo_and_redo(self):
        for seed in range(20):
            chance = random.Random(seed)
            desk, scenes, at = Desk(a=Rule(STALE)), [], 0
            scenes.append(desk.twin())
            for _ in range(40):
                word = chance.choice(("put", "drop", "choose", "undo", "redo"))
                if word in ("put", "choose") or (word == "drop" and len(desk)):
                    if word == "put":
                        found = desk.put(chance.choice(NAMES[:5]), chance.choice(RULES))
                    elif word == "drop":
                        found = desk.drop(chance.choice(desk.names))
                    else:
                        found = desk.choose(Marking.of({chance.choice(("k", "other")): chance.choice(WORDS)}))
                    del scenes[at + 1:]
                    scenes.append(desk.twin())
                    at += 1
                elif word == "undo":
                    many = chance.randint(0, at)
                    found = desk.undo() if many == 1 else desk.undo(many)
                    at -= many
                else:
                    many = chance.randint(0, len(scenes) - 1 - at)
                    found = desk.redo() if many == 1 else desk.redo(many=many)
                    at += many
                self.same((found, desk.steps), (desk.answer, at))
                self.assertEqual(desk, scenes[at])
                self.same(desk.answer, scenes[at].answer)
                self.fails_with(NothingToUndo, at + 1, desk.undo, at + 1)
                self.fails_with(NothingToUndo, len(scenes) - at, desk.redo, many=len(scenes) - at)

    def test_a_new_step_forgets(self):
        desk = Desk()
        desk.put("a", Rule(STALE))
        desk.put("b", Rule(CROSS))
        self.same((desk.undo(many=2), desk.redo(1), desk.undo(0), desk.redo(0), desk.redo()), ("nothing", "notes", "notes", "notes", "letters"))
        desk.undo()
        desk.choose(Marking())
        self.fails_with(NothingToUndo, 1, desk.redo)
        self.same((desk.names, desk.steps, desk.redo(0)), (("a",), 2, "notes"))

    def test_wrong_numbers(self):
        desk = Desk()
        desk.put("a", Rule(STALE))
        desk.put("b", Rule(STALE))
        desk.undo()
        before = state_of(desk)
        for action in (desk.undo, desk.redo):
            for value in (*others(int), -1, -HUGE, True, False):
                self.fails_with(InvalidNumber, value, action, value)
                self.fails_with(InvalidNumber, value, action, many=value)
            for value in (2, HUGE):
                self.fails_with(NothingToUndo, value, action, value)
        self.assertEqual(state_of(desk), before)

    def test_trial(self):
        desk = Desk(a=Rule(STALE))
        desk.put("b", Rule(CROSS))
        desk.put("c", Rule(NEVER))
        desk.undo()
        before = state_of(desk)
        with desk.trial() as same:
            self.assertIs(same, desk)
            desk.drop("a")
            with desk.trial():
                desk.undo(2)
                desk.choose(Marking.even("notes"))
                with self.assertRaises(Failure):
                    with desk.trial():
                        desk.put("a", Rule(NEVER))
                        fail()
                self.same((desk.names, desk.answer, desk.steps), (("a",), "notes", 1))
            self.same((desk.names, desk.steps), (("b",), 2))
        self.assertEqual(state_of(desk), before)
        with self.assertRaises(UnknownName):
            with desk.trial():
                desk.redo()
                desk.drop("zz")
        self.assertEqual(state_of(desk), before)

    def test_during(self):
        desk = Desk(a=Rule(STALE))
        desk.put("b", Rule(CROSS))
        before = state_of(desk)
        self.same(desk.during(lambda same: (same is desk, same.drop("b"), same.undo(2), same.steps)), (True, "notes", "notes", 0))
        self.fails(Failure, desk.during, lambda same: (same.drop("a"), fail()))
        self.assertEqual(state_of(desk), before)

    def test_twin(self):
        desk = Desk(a=Rule(STALE))
        desk.put("b", Rule(CROSS))
        desk.put("c", Rule(CROSS))
        desk.undo()
        twin = desk.twin()
        self.assertTrue(twin == desk and twin is not desk)
        self.assertEqual(state_of(twin), state_of(desk))
        twin.redo()
        desk.drop("a")
        self.same((desk.names, twin.names, twin.steps), (("b",), ("a", "b", "c"), 2))


class OtherTests(Case):
    def test_joined(self):
        one, other = Desk(a=Rule(STALE), c=Rule(CROSS)), Desk(b=Rule(FLUSH), c=Rule(CROSS))
        one.choose(Marking(order="numbers", report="notes"))
        other.choose(Marking(order="notes"))
        both = one.joined(other)
        self.same((both.names, both.steps, both.answer), (("a", "b", "c"), 0, "letters"))
        self.assertEqual((both.marking, both["b"]), (Marking(order="notes", report="notes"), Rule(FLUSH)))
        self.assertEqual(both, other.joined(one))
        self.same((one.names, one.steps, other.names, other.steps), (("a", "c"), 1, ("b", "c"), 1))
        self.fails_with(NothingToUndo, 1, both.undo)
        self.assertEqual(one.joined(one), one)
        for value in (*others(Desk), {"a": Rule(STALE)}, Desk):
            self.fails(InvalidOperation, one.joined, value)
        self.fails(InvalidOperation, one.joined, Desk(c=Rule(STALE)))
        self.fails(InvalidOperation, one.joined, Desk(c=Rule(CROSS, STALE)))
        crowd = {name: Rule(CROSS) for name in NAMES[3:13]}
        self.same(len(one.joined(Desk(**crowd))), 12)
        self.fails_with(TooMany, 12, one.joined, Desk(**crowd, zz=Rule(CROSS)))
        self.fails(InvalidOperation, one.joined, Desk(**crowd, zz=Rule(CROSS), a=Rule(CROSS)))

    def test_equal(self):
        one = Desk(a=Rule(STALE), b=Rule(CROSS))
        other = Desk(b=Rule(CROSS))
        other.put("a", Rule(STALE))
        self.assertTrue(one == other and not one != other)
        for desk in (Desk(a=Rule(STALE)), Desk(a=Rule(STALE), c=Rule(CROSS)), Desk(a=Rule(CROSS), b=Rule(STALE)), Desk()):
            self.assertTrue(one != desk and not one == desk)
        other.choose(Marking(k="notes"))
        self.assertTrue(one != other)
        other.choose(Marking(k="nothing"))
        self.assertTrue(one == other)
        for value in (*VALUES, {"a": Rule(STALE), "b": Rule(CROSS)}):
            self.assertTrue(one != value and not one == value)

    def test_nothing_gives_access(self):
        desk = Desk(a=Rule(STALE))
        seen = iter(desk)
        desk.put("b", Rule(CROSS))
        self.same((list(seen), list(desk)), (["a"], ["a", "b"]))


if __name__ == "__main__":
    unittest.main()
