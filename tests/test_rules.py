"""[0.10]: rules."""

import unittest

from letterrules.errors import InvalidNumber, InvalidOperation, InvalidRule
from letterrules.rules.patterns import Pattern, Rule
from support import CROSS, HUGE, OVERTAKE, STALE, VALUES, Case, others

SIX = tuple(Pattern(**{name: None}) for name in "abcdef")


class MakingTests(Case):
    def test_one_to_six(self):
        self.same(Rule(CROSS).patterns, (CROSS,))
        self.assertEqual(len(Rule(*SIX)), 6)
        self.assertEqual(Rule.of(SIX), Rule(*SIX))
        self.fails(InvalidRule, Rule)
        self.fails(InvalidRule, Rule.of, ())
        self.fails(InvalidRule, Rule, *SIX, CROSS)
        self.fails(InvalidRule, Rule.of, (*SIX, CROSS))

    def test_different_patterns(self):
        self.fails(InvalidRule, Rule, CROSS, CROSS)
        self.fails(InvalidRule, Rule, CROSS, STALE, CROSS.renamed({"x": "y", "y": "x"}))
        self.assertEqual(len(Rule(CROSS, CROSS.renamed({"x": "z"}))), 2)

    def test_other_values(self):
        for value in VALUES:
            if not isinstance(value, Pattern):
                self.fails(InvalidRule, Rule, value)
                self.fails(InvalidRule, Rule, CROSS, value)
                self.fails(InvalidRule, Rule.of, (CROSS, value))
            self.fails(InvalidRule, Rule.of, value)
        self.fails(InvalidRule, Rule.of, [CROSS])
        self.fails(InvalidRule, Rule.of, Rule(CROSS))

    def test_kinds(self):
        self.same(Rule(CROSS).kinds, ())
        self.same(Rule(STALE, CROSS, Pattern(x=("a", "report"), y=("z",))).kinds, ("a", "order", "report", "z"))


class OperatorTests(Case):
    def test_join(self):
        both = Rule(CROSS, STALE) | Rule(OVERTAKE, CROSS)
        self.same(both.patterns, (CROSS, STALE, OVERTAKE))
        self.assertEqual(Rule(CROSS) | Rule(CROSS), Rule(CROSS))
        self.assertEqual((Rule(*SIX) | Rule(*SIX[::-1])).patterns, SIX)

    def test_join_errors(self):
        for value in others(Rule):
            self.fails(InvalidOperation, lambda: Rule(CROSS) | value)
        self.fails(InvalidRule, lambda: Rule(*SIX) | Rule(CROSS))

    def test_without(self):
        rule = Rule(*SIX)
        self.same(rule.without(0, 5, 0, 2).patterns, (SIX[1], SIX[3], SIX[4]))
        self.assertEqual(rule.without(), rule)
        self.fails(InvalidRule, rule.without, *range(6))
        self.fails(InvalidRule, Rule(CROSS).without, 0, 0)

    def test_indices(self):
        rule = Rule(CROSS, STALE)
        self.assertIs(rule[0], CROSS)
        self.assertEqual(rule[1], STALE)
        for value in VALUES:
            if isinstance(value, int) and not isinstance(value, bool) and value in (0, 1):
                continue
            self.fails_with(InvalidNumber, value, lambda: rule[value])
            self.fails_with(InvalidNumber, value, rule.without, value)
            self.fails_with(InvalidNumber, value, rule.without, 0, 1, value, "x")
        for value in (2, -1, -2, HUGE, -HUGE, True, False):
            self.fails_with(InvalidNumber, value, lambda: rule[value])
            self.fails_with(InvalidNumber, value, rule.without, value)
        self.fails_with(InvalidNumber, 5, rule.without, 5, -1)

    def test_contains_and_iterates(self):
        rule = Rule(CROSS, STALE)
        self.assertIs(CROSS in rule, True)
        self.assertIs(CROSS.renamed({"x": "y", "y": "x"}) in rule, True)
        self.assertIs(OVERTAKE in rule, False)
        for value in others(Pattern):
            self.assertIs(value in rule, False)
        self.same((list(rule), len(rule)), ([CROSS, STALE], 2))
        self.same(str(rule), "rule of 2 patterns")
        self.same(str(Rule(CROSS)), "rule of 1 patterns")

    def test_equal(self):
        self.assertEqual(Rule(CROSS, STALE), Rule.of((CROSS, STALE)))
        self.assertNotEqual(Rule(CROSS, STALE), Rule(STALE, CROSS))
        self.assertNotEqual(Rule(CROSS, STALE), Rule(CROSS))
        self.assertTrue(Rule(CROSS) != Rule(STALE))
        for value in others(Rule):
            self.assertIs(Rule(CROSS) == value, False)

    def test_properties_stay(self):
        rule = Rule(CROSS)
        for name in ("patterns", "kinds"):
            self.assertRaises(AttributeError, setattr, rule, name, ())


if __name__ == "__main__":
    unittest.main()
