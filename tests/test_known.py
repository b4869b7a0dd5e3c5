"""[0.12], [0.13], [10.1], [10.2]: markings, what processes know by them, and calm runs."""

import itertools
import random
import unittest

from letterrules.errors import (
    InvalidMarking, InvalidName, InvalidNumber, InvalidOperation, InvalidRun, UnknownName,
)
from letterrules.marks.known import WORDS, Marking, is_calm, is_trail, is_uncalm, known, trail, uncalm
from letterrules.runs.runs import Run
from letterrules.runs.sets import is_in
from support import HUGE, LAST, VALUES, Case, others, run_of, some_run

EXAMPLES = """
>>> NOTES = Marking.even("notes")
>>> [known(LAST, NOTES, "q", 0), known(LAST, Marking(report="numbers"), "q", 0), trail(LAST, NOTES, "a", "q", 0), uncalm(LAST, NOTES)]
[('a', 'b', 'c'), ('c',), ('b', 'c'), ('a', 0)]
>>> [is_calm(LAST, Marking.even("numbers")), str(Marking(report="notes") | Marking(order="numbers"))]
[True, 'order numbers, report notes, other nothing']
"""

KINDS = ("k", "l", "other", "m")


def some_marking(chance):
    words = {kind: chance.choice(WORDS) for kind in KINDS if chance.random() < 0.7}
    return Marking.of(words)


def some_markings(seed, many):
    chance = random.Random(seed)
    yield from (Marking(), Marking.even("numbers"), Marking.even("notes"))
    yield from (some_marking(chance) for _ in range(many))


def naive_known(run, marking, process, place):
    """The words of [0.13]."""
    found = set()
    for word, z in run.rows[process][:place + 1]:
        found.add(z)
        if word == "read":
            kind, sender, _ = run.letters[z]
            end = run.rows[sender].index(("send", z))
            if marking[kind] != "nothing":
                found |= {name for one, name in run.rows[sender][:end] if one == "send"}
            if marking[kind] == "notes":
                found |= naive_known(run, marking, sender, end)
    return found


def is_naive_trail(run, marking, letter, process, place, row):
    """The words of [10.1]."""
    rows = run.rows
    here = rows[process][:place + 1]
    if ("send", letter) in here:
        return row == ()
    if not row or len(set(row)) != len(row) or ("read", row[-1]) not in here:
        return False
    for one, other in zip(row, row[1:]):
        sender = run.letters[other][1]
        if ("read", one) not in rows[sender][:rows[sender].index(("send", other))]:
            return False
    if any(marking[run.letters[name][0]] != "notes" for name in row[1:]):
        return False
    owner = rows[run.letters[letter][1]]
    behind = owner[owner.index(("send", letter)):]
    return row[0] == letter or (marking[run.letters[row[0]][0]] != "nothing" and ("send", row[0]) in behind)


def places_of(run):
    return [(process, place) for process, row in run.rows.items() for place in range(len(row))]


class ExampleTests(Case):
    def test_examples(self):
        self.examples(EXAMPLES, dict(globals()))


class MarkingTests(Case):
    def test_plain(self):
        self.same(WORDS, ("nothing", "numbers", "notes"))
        one = Marking(order="numbers", report="notes", far="nothing")
        self.same((one.other, one.kinds, list(one), len(one)), ("nothing", ("order", "report"), ["order", "report"], 2))
        self.same([one["order"], one["report"], one["far"], one["near"], one["other"]],
                  ["numbers", "notes", "nothing", "nothing", "nothing"])
        self.same(str(one), "order numbers, report notes, other nothing")
        self.same((str(Marking()), bool(Marking()), bool(one)), ("other nothing", False, True))
        other = Marking(other="notes", b="notes", a="nothing", c="numbers")
        self.same((other.other, other.kinds, str(other)), ("notes", ("a", "c"), "a nothing, c numbers, other notes"))
        self.same([other["a"], other["b"], other["zz"], other["other"]], ["nothing", "notes", "notes", "notes"])

    def test_of_and_even(self):
        self.assertEqual(Marking.of({}), Marking())
        self.assertEqual(Marking.of({"other": "notes", "a": "numbers"}), Marking(other="notes", a="numbers"))
        for word in WORDS:
            even = Marking.even(word)
            self.same((even.other, even.kinds, even["a"], str(even)), (word, (), word, f"other {word}"))
        self.assertIs(type(Marking.of({"a": "notes"})), Marking)

    def test_kinds_with_the_names_of_parameters(self):
        for name in ("self", "cls", "words", "kinds", "kind", "word"):
            words = {name: "notes", "a": "numbers", "other": "nothing"}
            one = Marking.of(words)
            words[name] = words["b"] = "numbers"
            self.same((one[name], one["a"], one["b"], one.kinds), ("notes", "numbers", "nothing", tuple(sorted(("a", name)))))
            self.assertIsInstance(one, Marking)
            self.assertEqual(one, Marking(a="numbers").with_word(name, "notes"))
            self.assertEqual(one | Marking(b="notes"), one.with_word("b", "notes"))
            self.assertEqual(one & Marking.of({name: "numbers"}), Marking.of({name: "numbers"}))
            self.assertEqual(one.with_word(name, "nothing"), Marking(a="numbers"))
            self.assertEqual(one.of({"a": "numbers"}), Marking(a="numbers"))
            self.assertEqual(one.even("notes"), Marking.even("notes"))
            self.fails(InvalidMarking, Marking.of, {name: "much"})
            self.fails(InvalidMarking, Marking.of, {name: "notes", "A": "notes"})

    def test_wrong_words(self):
        for value in VALUES:
            self.fails(InvalidMarking, Marking.even, value)
            self.fails(InvalidMarking, Marking, other=value)
            self.fails(InvalidMarking, Marking, a=value)
            self.fails(InvalidMarking, Marking.of, {"a": "notes", "b": value})
            self.fails(InvalidMarking, Marking.of, {"other": value})
            if value != {}:
                self.fails(InvalidMarking, Marking.of, value)
        for name in ("", "A", "abcdefghi", "a_b", "a1"):
            self.fails(InvalidMarking, Marking, **{name: "notes"})
            self.fails(InvalidMarking, Marking.of, {name: "notes"})
        for name in (1, True, None, ("a",), HUGE):
            self.fails(InvalidMarking, Marking.of, {name: "notes"})
        for value in (("notes",), ["notes"], "Notes", ""):
            self.fails(InvalidMarking, Marking, a=value)

    def test_words_of_wrong_kinds(self):
        for value in others(str):
            with self.assertRaises(InvalidName):
                Marking()[value]
            self.fails(InvalidName, Marking().with_word, value, "notes")
            self.fails(InvalidName, Marking().with_word, value, value)
        for value in ("", "A", "abcdefghi", "a b", "a\n", "%s", "x" * 10000):
            with self.assertRaises(InvalidName):
                Marking(a="notes")[value]
            self.fails(InvalidName, Marking().with_word, value, "notes")
        for value in VALUES:
            self.fails(InvalidMarking, Marking().with_word, "a", value)
            self.fails(InvalidMarking, Marking().with_word, "other", value)

    def test_with_word(self):
        one = Marking(a="numbers", b="notes")
        self.assertEqual(one.with_word("c", "notes"), Marking(a="numbers", b="notes", c="notes"))
        self.assertEqual(one.with_word("a", "nothing"), Marking(b="notes"))
        self.assertEqual(one.with_word("b", "numbers"), Marking(a="numbers", b="numbers"))
        self.assertEqual(one.with_word("c", "nothing"), one)
        wide = one.with_word("other", "notes")
        self.same((wide["a"], wide["b"], wide["c"], wide.kinds), ("numbers", "notes", "notes", ("a",)))
        # What is equal to the word of the others goes along with it.
        self.same(wide.with_word("other", "nothing").kinds, ("a",))
        self.same(wide.with_word("other", "nothing")["b"], "nothing")
        self.assertEqual(one, Marking(a="numbers", b="notes"))

    def test_signs_and_order_by_the_words_of_all_kinds(self):
        chance = random.Random(101)
        level = {word: at for at, word in enumerate(WORDS)}
        kinds = (*KINDS, "far", "self")
        equal = 0
        for _ in range(300):
            one, other = some_marking(chance), some_marking(chance)
            both = [(kind, level[one[kind]], level[other[kind]]) for kind in kinds]
            for kind, first, last in both:
                self.same((one | other)[kind], WORDS[max(first, last)])
                self.same((one & other)[kind], WORDS[min(first, last)])
            self.assertIs(one.is_at_most(other), all(first <= last for _, first, last in both))
            wanted = all(first == last for _, first, last in both)
            equal += wanted
            self.assertIs(one == other, wanted)
            self.assertIs(one != other, not wanted)
            self.same(one.kinds, tuple(sorted(kind for kind in KINDS if one[kind] != one.other)))
            self.same(str(one), ", ".join([*[f"{kind} {one[kind]}" for kind in one.kinds], f"other {one.other}"]))
        self.assertGreater(equal, 3)

    def test_equal_whether_told_or_not(self):
        self.assertEqual(Marking(other="notes", a="notes"), Marking.even("notes"))
        self.assertEqual(Marking(a="nothing"), Marking())
        for value in others(Marking):
            self.assertTrue(Marking() != value and not Marking() == value)
            self.assertIs(Marking().is_at_most(value), False)
            self.fails(InvalidOperation, lambda: Marking() | value)
            self.fails(InvalidOperation, lambda: Marking() & value)

    def test_markings_never_change(self):
        one = Marking(a="notes")
        for name in ("other", "kinds"):
            self.fails(AttributeError, setattr, one, name, 5)
        words = {"a": "notes"}
        other = Marking.of(words)
        words["a"] = "numbers"
        self.assertEqual(one, other)


class KnownTests(Case):
    def runs(self, seed, many, letters=5):
        chance = random.Random(seed)
        yield LAST
        for at in range(many):
            yield some_run(chance, letters, "pqr", (0.97, 0.4)[at % 2], KINDS)

    def test_known_by_its_words(self):
        more = 0
        for run in self.runs(102, 30):
            for marking in some_markings(len(run.order), 6):
                for process, place in places_of(run):
                    wanted = tuple(sorted(naive_known(run, marking, process, place)))
                    self.same(known(run, marking, process, place), wanted)
                    more += len(wanted) > place + 1
        self.assertGreater(more, 200)

    def test_trails(self):
        for run in self.runs(103, 30):
            for marking in some_markings(len(run.order), 5):
                for process, place in places_of(run):
                    knows = known(run, marking, process, place)
                    for letter in run.letters:
                        found = trail(run, marking, letter, process, place)
                        self.assertEqual(found is not None, letter in knows)
                        if found is not None:
                            self.assertTrue(is_naive_trail(run, marking, letter, process, place, found))
                            self.assertIs(is_trail(run, marking, letter, process, place, found), True)

    def test_the_judge_accepts_every_trail_and_nothing_else(self):
        lengths = set()
        for run in self.runs(104, 12, 4):
            rows = [row for many in range(5) for row in itertools.product(run.letters, repeat=many) if len(set(row)) >= many - 1]
            for marking in some_markings(len(run.order) + 7, 4):
                for process, place in places_of(run)[::2]:
                    for letter in list(run.letters)[:2]:
                        for row in rows:
                            wanted = is_naive_trail(run, marking, letter, process, place, row)
                            if wanted:
                                lengths.add(len(row))
                            self.assertIs(is_trail(run, marking, letter, process, place, row), wanted)
        self.assertEqual(lengths, {0, 1, 2, 3})

    def test_a_long_trail(self):
        run = run_of("p +a +b, q -b +c, r -c +d, s -d -a")
        notes = Marking.even("notes")
        self.same(trail(run, notes, "a", "s", 0), ("b", "c", "d"))
        self.same(trail(run, notes, "a", "s", 1), trail(run, notes, "a", "s", 1))
        self.assertTrue(is_trail(run, notes, "a", "s", 1, ("a",)) and is_trail(run, notes, "a", "s", 1, ("b", "c", "d")))
        self.assertFalse(is_trail(run, notes, "a", "s", 0, ("a",)))
        self.same(trail(run, Marking.even("numbers"), "a", "q", 0), ("b",))
        self.assertIsNone(trail(run, Marking.even("numbers"), "a", "r", 0))
        self.same(trail(run, notes, "a", "p", 0), ())
        self.assertFalse(is_trail(run, notes, "a", "p", 1, ("b",)))

    def test_wrong_trails(self):
        notes = Marking.even("notes")
        for value in (*VALUES, ["b", "c"], ("b", ["c"]), ("b", "c", "c"), ("b", "z"), ("c", "b"), ("b", True), "bc"):
            self.assertIs(is_trail(LAST, notes, "a", "q", 0, value), False)
        self.assertIs(is_trail(LAST, notes, "a", "q", 0, ("b", "c")), True)
        self.assertIs(is_trail(LAST, notes, "a", "p", 0, ()), True)
        self.assertIs(is_trail(LAST, notes, "a", "p", 0, []), False)

    def test_errors(self):
        marking = Marking()
        for value in others(Run):
            self.fails(InvalidRun, known, value, 5, 5, 5)
            self.fails(InvalidRun, trail, value, 5, 5, 5, 5)
            self.fails(InvalidRun, is_trail, value, 5, 5, 5, 5, ())
            for function in (is_calm, uncalm):
                self.fails(InvalidRun, function, value, 5)
            self.fails(InvalidRun, is_uncalm, value, 5, 5)
        for value in others(Marking):
            self.fails(InvalidMarking, known, LAST, value, 5, 5)
            self.fails(InvalidMarking, trail, LAST, value, 5, 5, 5)
            self.fails(InvalidMarking, is_trail, LAST, value, 5, 5, 5, ())
            for function in (is_calm, uncalm):
                self.fails(InvalidMarking, function, LAST, value)
                self.fails(InvalidMarking, function, LAST.until(("send", "a")), value)
            self.fails(InvalidMarking, is_uncalm, LAST, value, 5)
        for value in (*VALUES, "zz", ["p"], ("p",)):
            self.fails_with(UnknownName, value, known, LAST, marking, value, 7)
            if value not in ("a",):
                self.fails_with(UnknownName, value, trail, LAST, marking, value, 5, 5)
                self.fails_with(UnknownName, value, is_trail, LAST, marking, value, 5, 5, ())
            self.fails_with(UnknownName, value, trail, LAST, marking, "a", value, 5)
            self.fails_with(UnknownName, value, is_trail, LAST, marking, "a", value, 5, ())
        for value in (*VALUES, 2, -2, (0,), [0]):
            if value not in (0, 1) or isinstance(value, bool):
                self.fails_with(InvalidNumber, value, known, LAST, marking, "p", value)
                self.fails_with(InvalidNumber, value, trail, LAST, marking, "a", "p", value)
                self.fails_with(InvalidNumber, value, is_trail, LAST, marking, "a", "p", value, ())
        self.fails_with(InvalidNumber, 0, known, Run({}, {"p": ()}), marking, "p", 0)


class CalmTests(Case):
    def whole_runs(self, seed, many):
        chance = random.Random(seed)
        yield LAST
        for _ in range(many):
            run = some_run(chance, 5, "pqr", 0.97, KINDS)
            yield run.without(*run.unread)

    def test_calm_runs(self):
        seen = set()
        for run in self.whole_runs(105, 60):
            for marking in some_markings(len(run.order), 8):
                wanted = set()
                for process, place in places_of(run):
                    read = {name for word, name in run.rows[process][:place + 1] if word == "read"}
                    wanted |= {(letter, place) for letter in naive_known(run, marking, process, place)
                               if run.letters[letter][2] == process and letter not in read}
                found = uncalm(run, marking)
                self.assertIs(is_calm(run, marking), not wanted)
                self.assertTrue(found in wanted if wanted else found is None)
                seen.add(bool(wanted))
                for pair in itertools.product(run.letters, range(-1, 8)):
                    self.assertIs(is_uncalm(run, marking, pair), pair in wanted)
        self.assertEqual(seen, {True, False})

    def test_even_markings_and_sets(self):
        for run in self.whole_runs(106, 120):
            for word, among in zip(WORDS, ("all", "pairs", "causal")):
                self.assertIs(is_calm(run, Marking.even(word)), is_in(run, among))

    def test_lesser_markings(self):
        chance, many = random.Random(107), 0
        for run in self.whole_runs(108, 60):
            one, other = some_marking(chance), some_marking(chance)
            if is_calm(run, one | other):
                many += 1
                self.assertTrue(is_calm(run, one) and is_calm(run, other) and is_calm(run, one & other))
        self.assertGreater(many, 15)

    def test_runs_that_are_not_whole(self):
        unread = LAST.until(("read", "c"))
        for function in (is_calm, uncalm):
            self.fails(InvalidOperation, function, unread, Marking())
        self.fails(InvalidOperation, is_uncalm, unread, Marking(), ("a", 0))

    def test_wrong_pairs(self):
        notes = Marking.even("notes")
        for value in (*VALUES, ("a", 1), ("a", -1), ("a", False), ("a", 0, 0), ("z", 0), ["a", 0], (["a"], 0), ("a", "0"), ("c", 0),
                      ("a",), ("a", (0,)), ("a", HUGE), ("b", 0)):
            self.assertIs(is_uncalm(LAST, notes, value), False)
        self.assertIs(is_uncalm(LAST, notes, ("a", 0)), True)
        self.assertIs(is_uncalm(LAST, Marking(), ("a", 0)), False)


if __name__ == "__main__":
    unittest.main()
