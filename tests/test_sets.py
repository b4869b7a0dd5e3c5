"""[0.9], [3.1] to [3.4]: the four sets."""

import itertools
import random
import unittest

from letterrules.errors import InvalidOperation, InvalidRun
from letterrules.runs.runs import Run
from letterrules.runs.sets import (
    SETS, all_pairs, bar, is_bar, is_in, is_letter_row, late_letters, letter_row, next_bar, set_of, shortest_crown,
)
from support import LAST, VALUES, Case, naive_ahead, others, run_of, some_run

EXAMPLES = """
>>> [set_of(LAST), late_letters(LAST), all_pairs(LAST), is_bar(LAST, "causal", ("a", ("send", "c"))), letter_row(LAST)]
['pairs', ('a',), (), True, None]
>>> [next_bar(LAST, "causal", ("a", ("read", "b"))), letter_row(LAST.without("a")), set_of(LAST.mirrored())]
[('a', 'b'), ('b', 'c'), 'pairs']
>>> ring = Run({"a": ("k", "p", "q"), "b": ("k", "q", "r"), "c": ("k", "r", "p")}, {"p": (("send", "a"), ("read", "c")), "q": (("send", "b"), ("read", "a")), "r": (("send", "c"), ("read", "b"))})
>>> [set_of(ring), len(shortest_crown(ring)), bar(ring, "causal")]
['causal', 3, None]
"""

OVERTAKEN = run_of("p +a +b, q -b -a")
CROSSED = run_of("p +a -b, q +b -a")
ROW = run_of("p +a -b, q -a +b")
HALF = run_of("p +a +b, q -b")
FUNCTIONS = (set_of, late_letters, all_pairs, shortest_crown, letter_row)
WITH_AMONG = (is_in, bar)
WITH_VALUE = (is_bar, next_bar)


def ring_run(many):
    """A run in which each of so many letters is sent ahead of the reading of the next one only."""
    names = "abcdefgh"[:many]
    return run_of(", ".join(f"{chr(ord('p') + at)} +{name} -{names[at - 1]}" for at, name in enumerate(names)))


class Naive:
    """The bars of a whole run, by the words of the document."""

    def __init__(self, run):
        self.letters = run.letters
        self.ahead = naive_ahead(run)
        self.events = run.order

    def reaches(self, one, other):
        return (("send", one), ("read", other)) in self.ahead

    def bars(self, among):
        letters = self.letters
        if among == "pairs":
            return {(x, y) for x, y in itertools.permutations(letters, 2) if letters[x][1:] == letters[y][1:]
                    and (("send", x), ("send", y)) in self.ahead and (("read", y), ("read", x)) in self.ahead}
        if among == "causal":
            return {(y, e) for y in letters for e in self.events
                    if (("send", y), e) in self.ahead and (e, ("read", y)) in self.ahead}
        if among == "single":
            return {row for many in range(2, len(letters) + 1) for row in itertools.permutations(letters, many)
                    if all(self.reaches(row[at - 1], row[at]) for at in range(many))}
        return set()

    def rows(self):
        return {row for row in itertools.permutations(self.letters)
                if not any(self.reaches(y, x) for x, y in itertools.combinations(row, 2))}


class ExampleTests(Case):
    def test_examples(self):
        names = dict(globals())
        self.examples(EXAMPLES, names)

    def test_constant(self):
        self.same(SETS, ("all", "pairs", "causal", "single"))


class SetTests(Case):
    def test_a_run_for_each_word(self):
        for run, word in ((OVERTAKEN, "all"), (LAST, "pairs"), (CROSSED, "causal"), (ROW, "single"),
                          (ring_run(3), "causal"), (Run({}, {}), "single"), (Run({}, {"p": ()}), "single")):
            self.same(set_of(run), word)
            for other in SETS:
                self.assertIs(is_in(run, other), SETS.index(other) <= SETS.index(word))
                self.assertIs(bar(run, other) is None, SETS.index(other) <= SETS.index(word))

    def test_overtaken_between_other_processes_is_no_pair(self):
        self.assertEqual(all_pairs(run_of("p +a +b +c, q -c -a, r -b")), (("a", "c"),))
        self.assertEqual(all_pairs(run_of("p +a, q +b, r -b -a")), ())
        self.assertEqual(all_pairs(run_of("p +a +b +c, q -c -b -a")), (("a", "b"), ("a", "c"), ("b", "c")))

    def test_everything_named_naively(self):
        chance = random.Random(21)
        seen = set()
        for at in range(200):
            run = some_run(chance, min(at, 4), "pqr"[:2 + at % 4], read=1) if at else LAST
            naive = Naive(run)
            bars = {word: naive.bars(word) for word in SETS}
            wanted = [word for word in SETS if not bars[word]][-1]
            seen.add(wanted)
            self.same(set_of(run), wanted)
            self.same(all_pairs(run), tuple(sorted(bars["pairs"])))
            self.same(late_letters(run), tuple(sorted({y for y, _ in bars["causal"]})))
            for word in SETS:
                self.look_at_bars(run, word, bars)
            self.look_at_rows(run, naive, bars)
        self.assertEqual(seen, set(SETS))

    def look_at_bars(self, run, word, bars):
        found = bar(run, word)
        if bars[word]:
            self.assertIn(found, bars[word])
            self.assertIs(type(found), tuple)
        else:
            self.assertIsNone(found)
        names = [*run.letters, "zz"]
        values = [*itertools.product(names, repeat=2), *itertools.product(names, (*run.order, ("send", "zz")))]
        values += [row for many in range(len(names) + 1) for row in itertools.permutations(names, many)]
        for value in values:
            self.assertIs(is_bar(run, word, value), value in bars[word], (word, value))
            if word != "all" and word != "single" and value in bars[word]:
                self.assertIn(next_bar(run, word, value), bars[SETS[SETS.index(word) + 1]])

    def look_at_rows(self, run, naive, bars):
        crown, row, rows = shortest_crown(run), letter_row(run), naive.rows()
        if bars["single"]:
            self.assertIn(crown, bars["single"])
            self.assertEqual(len(crown), min(len(value) for value in bars["single"]))
            self.assertIsNone(row)
        else:
            self.assertIsNone(crown)
            self.assertIn(row, rows)
            self.assertIs(type(row), tuple)
        self.assertEqual(bool(rows), not bars["single"])
        for many in range(len(run) + 2):
            for value in itertools.permutations([*run.letters, "zz"], many):
                self.assertIs(is_letter_row(run, value), value in rows, value)


class BarTests(Case):
    def test_next_bars(self):
        self.same(next_bar(OVERTAKEN, "pairs", ("a", "b")), ("a", ("read", "b")))
        self.same(next_bar(OVERTAKEN, "causal", ("a", ("read", "b"))), ("a", "b"))
        self.same(next_bar(LAST, "causal", ("a", ("send", "c"))), ("a", "c"))

    def test_next_bar_errors(self):
        for word, value in (("pairs", ("b", "a")), ("causal", ("b", ("read", "a"))), ("single", ("a",)), ("all", ("a", "b")),
                            ("all", None), ("single", ("a", "b", "a"))):
            self.fails(InvalidOperation, next_bar, OVERTAKEN, word, value)
        self.assertIs(is_bar(CROSSED, "single", ("a", "b")), True)
        self.fails(InvalidOperation, next_bar, CROSSED, "single", ("a", "b"))
        for value in VALUES:
            for word in SETS:
                self.fails(InvalidOperation, next_bar, LAST, word, value)

    def test_values_near_bars(self):
        for value in (["a", "b"], ("a", "b", "b"), ("a",), ("b", "a"), "ab", ("a", "a"), ("a", None), ("a", []), {"a": "b"},
                      (("a", "b"),), ("a", "zz"), ("a", ("b",))):
            self.assertIs(is_bar(OVERTAKEN, "pairs", value), False)
        for value in (["a", ("read", "b")], ("a", ["read", "b"]), ("a", ("read", "a")), ("a", ("send", "a")), ("a", "b"),
                      ("b", ("read", "b")), ("a", ("read", "zz")), ("zz", ("read", "b")), (None, ("read", "b")), ("a", None),
                      ("a", ("read", "b"), ("read", "b")), ([], [])):
            self.assertIs(is_bar(OVERTAKEN, "causal", value), False)
        ring = ring_run(4)
        self.assertIs(is_bar(ring, "single", ("a", "b", "c", "d")), is_bar(ring, "single", ("b", "c", "d", "a")))
        for value in (("a",), (), ("a", "b"), ("a", "b", "c"), ["a", "b", "c", "d"], ("a", "b", "c", "d") * 2, ("a", "a")):
            self.assertIs(is_bar(ring, "single", value), False)

    def test_values_of_every_kind(self):
        for value in VALUES:
            for word in SETS:
                wanted = word in ("pairs", "single") and isinstance(value, tuple) and value == ("a", "b")
                self.assertIs(is_bar(OVERTAKEN, word, value), wanted, (word, value))
            self.assertIs(is_letter_row(ROW, value), isinstance(value, tuple) and value == ("a", "b"))
        for value in (["a", "b"], ("b", "a"), ("a",), ("a", "b", "a"), ("a", "a"), ("a", "zz"), ("a", None), ("a", [])):
            self.assertIs(is_letter_row(ROW, value), False)
        self.assertIs(is_letter_row(Run({}, {}), ()), True)
        self.assertEqual(letter_row(Run({}, {"p": ()})), ())


class CrownTests(Case):
    def test_fewest_letters(self):
        self.assertEqual(len(shortest_crown(CROSSED)), 2)
        for many in (2, 3, 4, 5, 8):
            run = ring_run(many)
            crown = shortest_crown(run)
            self.assertEqual(sorted(crown), sorted(run.letters))
            self.assertIs(is_bar(run, "single", crown), True)
            self.assertEqual(set_of(run), "causal")

    def test_short_beside_long(self):
        run = ring_run(4) + run_of("x +y -z, w +z -y")
        self.assertEqual(set(shortest_crown(run)), {"y", "z"})
        self.assertEqual(len(shortest_crown(ring_run(4) + run_of("x +y -z, w +z -v, u +v -y"))), 3)

    def test_none(self):
        for run in (ROW, Run({}, {}), run_of("p +a, q -a"), run_of("p +a +b, q -a -b")):
            self.assertIsNone(shortest_crown(run))


class OtherRunTests(Case):
    def test_each_set_keeps_parts_and_mirrors(self):
        chance = random.Random(33)
        for _ in range(80):
            run = some_run(chance, chance.randint(2, 5), read=1)
            word = set_of(run)
            self.assertEqual(set_of(run.mirrored()), word)
            self.assertEqual(set_of(run.with_letters(a="x", b="a").with_processes(p="q", q="p").with_kinds(k="z")), word)
            part = run.only(*chance.sample(sorted(run.letters), 2))
            self.assertIs(is_in(part, word), True)
            self.assertIs(is_in(run.without(chance.choice(sorted(run.letters))), word), True)

    def test_each_set_contains_the_next_one(self):
        chance = random.Random(34)
        for _ in range(80):
            run = some_run(chance, 4, read=1)
            inside = [is_in(run, word) for word in SETS]
            self.assertEqual(inside, sorted(inside, reverse=True))


class ErrorTests(Case):
    def test_no_run(self):
        for value in others(Run):
            for function in FUNCTIONS:
                self.fails(InvalidRun, function, value)
            for function in WITH_AMONG:
                self.fails(InvalidRun, function, value, "nothing")
            for function in WITH_VALUE:
                self.fails(InvalidRun, function, value, "nothing", None)
            self.fails(InvalidRun, is_letter_row, value, ())

    def test_not_whole(self):
        for function in FUNCTIONS:
            self.fails(InvalidOperation, function, HALF)
        for function in WITH_AMONG:
            self.fails(InvalidOperation, function, HALF, "all")
            self.fails(InvalidOperation, function, HALF, "nothing")
        for function in WITH_VALUE:
            self.fails(InvalidOperation, function, HALF, "all", ())
        self.fails(InvalidOperation, is_letter_row, HALF, ("a", "b"))

    def test_no_word(self):
        for value in VALUES:
            if isinstance(value, str) and value == "all":
                continue
            for function in WITH_AMONG:
                self.fails(InvalidOperation, function, LAST, value)
            for function in WITH_VALUE:
                self.fails(InvalidOperation, function, LAST, value, ("a", "b"))
        for word in ("All", "pair", "none", "causal ", ""):
            self.fails(InvalidOperation, is_in, LAST, word)


if __name__ == "__main__":
    unittest.main()
