"""[0.10], [0.11], [4.1]: patterns and their arrangements."""

import itertools
import unittest

from letterrules.errors import InvalidOperation, InvalidPattern, UnknownName
from letterrules.rules import patterns
from letterrules.rules.patterns import MAX_ARRANGEMENTS, MAX_RULE, Pattern, Rule, arrangements, is_arrangement
from support import CROSS, HUGE, OVERTAKE, STALE, VALUES, Case, others

EXAMPLES = """
>>> [STALE.kinds, STALE.groups, len(list(arrangements(OVERTAKE))), str(CROSS), ("read", "z") in CROSS, list(CROSS.without_letter("y"))]
[('order', 'report'), ((('read', 'x'), ('read', 'y')),), 4, 'pattern of 2 letters, 2 conditions, 0 groups', False, ['x']]
>>> [len(Rule(CROSS, STALE) | Rule(OVERTAKE, CROSS)), Rule(CROSS, STALE).without(0) == Rule(STALE), STALE.without_letter("y").groups]
[3, True, ()]
"""

SX, SY, SZ = ("send", "x"), ("send", "y"), ("send", "z")
RX, RY, RZ = ("read", "x"), ("read", "y"), ("read", "z")
FIVE = {name: None for name in "vwxyz"}
SENDS, READS = tuple(("send", name) for name in "vwxyz"), tuple(("read", name) for name in "vwxyz")
GROUPED = Pattern(groups=((SX, SY, RZ), (RX, RY)), conditions=((SX, RY),), x=("k",), y=None, z=("m", "l"))


class ExampleTests(Case):
    def test_examples(self):
        self.examples(EXAMPLES, {"STALE": STALE, "CROSS": CROSS, "OVERTAKE": OVERTAKE, "Rule": Rule,
                                 "arrangements": arrangements})

    def test_constants(self):
        self.same((MAX_ARRANGEMENTS, MAX_RULE), (600, 6))
        for name in ("Pattern", "Rule", "arrangements", "is_arrangement"):
            self.assertEqual(getattr(patterns, name).__module__, "letterrules.rules.patterns")


class MakingTests(Case):
    def test_any_order_with_repeats(self):
        one = Pattern(conditions=((SY, RX), (SX, RY), (SY, RX)), groups=((RY, RX, RY), (SY, SX), (RX, RY), (SX, SY, SX)),
                      y=("b", "a", "b"), x=None)
        self.same(one.letters, {"x": None, "y": ("a", "b")})
        self.same(one.conditions, ((SX, RY), (SY, RX)))
        self.same(one.groups, ((RX, RY), (SX, SY)))
        self.same(one.kinds, ("a", "b"))
        other = Pattern(x=None, y=("a", "b"), groups=((SX, SY), (RX, RY)), conditions=((SX, RY), (SY, RX)))
        self.assertEqual(one, other)
        self.same(str(one), "pattern of 2 letters, 2 conditions, 2 groups")

    def test_plain(self):
        one = Pattern(x=None)
        self.same((one.letters, one.conditions, one.groups, one.kinds), ({"x": None}, (), (), ()))
        self.same((len(one), list(one), str(one)), (1, ["x"], "pattern of 1 letters, 0 conditions, 0 groups"))
        five = Pattern(**FIVE)
        self.same((len(five), list(five)), (5, list("vwxyz")))

    def test_small_groups_are_left_out(self):
        one = Pattern(groups=((), (SX,), (SX, SX), (SX, SY), (SY,)), x=None, y=None)
        self.same(one.groups, ((SX, SY),))
        self.assertEqual(Pattern(groups=((),), x=None), Pattern(x=None))
        self.fails(InvalidPattern, Pattern, groups=((SY,),), x=None)
        self.fails(InvalidPattern, Pattern, groups=((SY, SY),), x=None)

    def test_condition_with_one_event_twice(self):
        self.same(Pattern(conditions=((SX, SX),), x=None).conditions, ((SX, SX),))

    def test_numbers_of_letters(self):
        self.fails(InvalidPattern, Pattern)
        self.fails(InvalidPattern, Pattern.of, {}, (), ())
        self.fails(InvalidPattern, Pattern, u=None, **FIVE)
        self.fails(InvalidPattern, Pattern.of, {**FIVE, "u": None}, (), ())

    def test_of(self):
        self.assertEqual(Pattern.of({"y": None, "x": None}, CROSS.conditions, ()), CROSS)
        self.assertEqual(Pattern.of(STALE.letters, STALE.conditions, STALE.groups), STALE)
        names = {"self": None, "groups": ("k",), "letters": None, "cls": None}
        odd = Pattern.of(names, ((("send", "self"), ("read", "groups")),), ())
        self.same(odd.letters, {"cls": None, "groups": ("k",), "letters": None, "self": None})
        self.assertIsInstance(odd, Pattern)
        self.assertEqual(odd.of({"x": None}, (), ()), Pattern(x=None))
        self.assertIs(type(Pattern.of({"x": None}, (), ())), Pattern)
        self.assertEqual(Pattern.of({"groups": None, "x": None}, (), ()).renamed({"groups": "y"}), Pattern(x=None, y=None))
        self.assertEqual(Pattern(x=None).renamed({"x": "self"}), Pattern.of({"self": None}, (), ()))
        self.assertEqual(Pattern(letters=None), Pattern.of({"letters": None}, (), ()))
        self.fails(InvalidPattern, Pattern.of, {"groups": 5}, (), ())

    def test_letters_with_the_names_of_parameters(self):
        # This one has ten letters, so it is no name.
        self.fails(InvalidPattern, Pattern.of, {"conditions": None}, (), ())
        self.fails(InvalidPattern, Pattern.of, {"conditions": (), "x": None}, (), ())
        for name in ("self", "groups", "letters"):
            event, letters = ("read", name), {name: ("k",), "x": None}
            one = Pattern.of(letters, ((SX, event),), ((RX, event),))
            letters["y"] = letters[name] = 5
            self.same(one.letters, dict(sorted({name: ("k",), "x": None}.items())))
            self.same(one.conditions, ((SX, event),))
            self.same(one.groups, (tuple(sorted((RX, event))),))
            self.assertEqual(one.renamed({name: "y"}), Pattern(conditions=((SX, RY),), groups=((RX, RY),), x=None, y=("k",)))
            self.assertEqual(one & Pattern(y=None), one.with_letter("y"))
            for value in others(tuple):
                self.fails(InvalidPattern, Pattern.of, {name: None}, value, ())
                self.fails(InvalidPattern, Pattern.of, {name: None}, (), value)
            for value in (5, ("other",), one):
                self.fails(InvalidPattern, Pattern.of, {name: value}, (), ())
            five = {name: None, **dict.fromkeys("abcd")}
            self.fails(InvalidPattern, Pattern.of, {**five, "e": None}, (), ())
            sends = tuple(("send", part) for part in five)
            self.fails(InvalidPattern, Pattern.of, five, (), (sends,))
            many = (sends[:4], tuple(("read", part) for part in sorted(five)[1:]), (sends[4], ("read", sorted(five)[0])))
            self.fails(InvalidPattern, Pattern.of, five, (), many)

    def test_an_object_in_the_place_of_a_part(self):
        for value in (CROSS, Pattern.of({"self": None}, (), ()), Rule(CROSS), (CROSS,), [CROSS], {"x": CROSS}):
            self.fails(InvalidPattern, Pattern, conditions=value, x=None)
            self.fails(InvalidPattern, Pattern, groups=value, x=None)
            self.fails(InvalidPattern, Pattern, conditions=value)
            self.fails(InvalidPattern, Pattern, y=value)
            self.fails(InvalidPattern, Pattern.of, value, (), ())

    def test_wrong_letters(self):
        for name in ("A", "", "abcdefghi", "a_b", "_letters", "parts_"):
            self.fails(InvalidPattern, Pattern, **{name: None})
            self.fails(InvalidPattern, Pattern.of, {name: None}, (), ())
        for name in (1, True, None, ("x",), HUGE):
            self.fails(InvalidPattern, Pattern.of, {name: None, "x": None}, (), ())
        for value in others(dict):
            self.fails(InvalidPattern, Pattern.of, value, (), ())

    def test_kinds(self):
        self.same(Pattern(x=("d", "b", "a", "c", "d")).letters["x"], ("a", "b", "c", "d"))
        self.fails(InvalidPattern, Pattern, x=("a", "b", "c", "d", "e"))
        self.fails(InvalidPattern, Pattern, x=())
        self.fails(InvalidPattern, Pattern, x=("other",))
        self.fails(InvalidPattern, Pattern, x=("a", "other"))
        right = [("a",), ("a", "b"), ("a", "b", "c"), ("send", "a"), ("send", "a", "b")]
        for value in VALUES:
            if value is None or value in right:
                Pattern(x=value)
            else:
                self.fails(InvalidPattern, Pattern, x=value)
        for value in (["k"], "k", ("K",), (None,), ("k", 1), {"k": 1}, (("k",),), (["k"],)):
            self.fails(InvalidPattern, Pattern, x=value)

    def test_wrong_conditions(self):
        for value in others(tuple):
            self.fails(InvalidPattern, Pattern, conditions=value, x=None)
            self.fails(InvalidPattern, Pattern, groups=value, x=None)
            self.fails(InvalidPattern, Pattern.of, {"x": None}, value, ())
            self.fails(InvalidPattern, Pattern.of, {"x": None}, (), value)
        for value in (SX, (SX,), (SX, SX, SX), [SX, RX], (SX, SZ), (SZ, SX), (SX, "x"), (SX, None), (SX, ["read", "x"]),
                      (SX, ("come", "x")), None, 5, "sx", (), {SX: RX}, (SX, ("read", "x", "x")), Pattern(x=None)):
            self.fails(InvalidPattern, Pattern, conditions=((SX, RX), value), x=None)

    def test_wrong_groups(self):
        for value in ([SX, SY], (SX, SZ), (SX, "x"), None, 5, "sx", {SX: SY}, (SX, RX), (SX, SY, RX), (SX, None), (SX, [])):
            self.fails(InvalidPattern, Pattern, groups=(value,), x=None, y=None)
        self.fails(InvalidPattern, Pattern, groups=((SX, SY), (SY, RX)), x=None, y=None)
        self.fails(InvalidPattern, Pattern, groups=((SX, SY), (SX, SY, SZ)), x=None, y=None, z=None)
        self.fails(InvalidPattern, Pattern, groups=(SENDS,), **FIVE)
        self.same(len(Pattern(groups=(SENDS[:4],), **FIVE).groups[0]), 4)

    def test_two_wrong_arguments(self):
        self.fails(InvalidPattern, Pattern, conditions=5, groups=5, A=5)
        self.fails(InvalidPattern, Pattern.of, None, None, None)

    def test_numbers_of_arrangements(self):
        most = Pattern(groups=(SENDS[:4], READS[:4]), **FIVE)
        self.assertEqual(len(list(arrangements(most))), 576)
        last = (SENDS[4], ("read", "w"))
        for groups in ((SENDS[:4], (*READS[:1], *READS[2:]), last), (SENDS[:4], READS[:3], (READS[4], READS[3], SENDS[4])),
                       (SENDS[:4], READS[:4], (SENDS[4], READS[4])), (SENDS[1:], (*READS[1:3], SENDS[0]), READS[3:] + READS[:1])):
            self.fails(InvalidPattern, Pattern, groups=groups, **FIVE)
        three = Pattern(groups=(SENDS[:3], READS[:3], (READS[3], SENDS[4])), **FIVE)
        self.assertEqual(len(list(arrangements(three))), 72)
        self.assertEqual(len(list(arrangements(Pattern(groups=(SENDS[:4], READS[:3], READS[3:]), **FIVE)))), 288)


class ChangeTests(Case):
    def test_with_letter(self):
        self.same(CROSS.with_letter("z").letters, {"x": None, "y": None, "z": None})
        self.same(CROSS.with_letter("z", "l", "k", "l").letters["z"], ("k", "l"))
        self.same(STALE.with_letter("x").letters, {"x": None, "y": ("report",)})
        self.same(STALE.with_letter("x", "k").letters["x"], ("k",))
        self.assertEqual(STALE.with_letter("x", "order"), STALE)
        self.same(CROSS.with_letter("z").conditions, CROSS.conditions)
        self.same(len(CROSS.with_letter("self")), 3)

    def test_with_letter_errors(self):
        for value in VALUES:
            if not isinstance(value, str) or value not in ("a", "abcdefgh", "send", "all"):
                self.fails(InvalidPattern, CROSS.with_letter, value)
                self.fails(InvalidPattern, CROSS.with_letter, "z", value)
                self.fails(InvalidPattern, CROSS.with_letter, "z", "k", value)
        self.fails(InvalidPattern, CROSS.with_letter, "z", "other")
        self.fails(InvalidPattern, CROSS.with_letter, "z", "a", "b", "c", "d", "e")
        self.fails(InvalidPattern, Pattern(**FIVE).with_letter, "u")
        self.same(len(Pattern(**FIVE).with_letter("v", "k")), 5)

    def test_without_letter(self):
        one = GROUPED.without_letter("z")
        self.same((one.letters, one.groups, one.conditions), ({"x": ("k",), "y": None}, ((RX, RY), (SX, SY)), ((SX, RY),)))
        two = GROUPED.without_letter("y")
        self.same((two.groups, two.conditions), (((RZ, SX),), ()))
        self.same(Pattern(conditions=((SX, SX), (SY, SX), (SX, SY)), x=None, y=None).without_letter("y").conditions,
                  ((SX, SX),))
        self.fails(InvalidPattern, Pattern(x=None).without_letter, "x")

    def test_with_condition(self):
        one = CROSS.with_condition(RX, RY)
        self.same(one.conditions, ((RX, RY), *CROSS.conditions))
        self.assertEqual(CROSS.with_condition(*CROSS.conditions[0]), CROSS)
        self.same(CROSS.with_condition(SX, SX).conditions, ((SX, RY), (SX, SX), (SY, RX)))
        self.assertEqual(one.without_condition(RX, RY), CROSS)

    def test_without_condition(self):
        self.same(CROSS.without_condition(SX, RY).conditions, ((SY, RX),))
        self.fails(InvalidOperation, CROSS.without_condition, RY, SX)
        self.fails(InvalidOperation, CROSS.without_condition, SX, SX)

    def test_with_group(self):
        plain = Pattern(**FIVE)
        self.same(plain.with_group(SY, SX).groups, ((SX, SY),))
        pairs = plain.with_group(SX, SY).with_group(RX, RY)
        self.same(pairs.groups, ((RX, RY), (SX, SY)))
        self.same(pairs.with_group(SX, SZ, SZ).groups, ((RX, RY), (SX, SY, SZ)))
        joined = plain.with_group(SX, SY).with_group(RZ, ("send", "w")).with_group(SX, RZ)
        self.same(joined.groups, ((RZ, ("send", "w"), SX, SY),))
        self.assertEqual(pairs.with_group(), pairs)
        self.assertEqual(pairs.with_group(SX), pairs)
        self.assertEqual(pairs.with_group(SZ), pairs)
        self.assertEqual(pairs.with_group(SX, SY), pairs)
        self.fails(InvalidPattern, pairs.with_group, SX, RX)
        self.fails(InvalidPattern, pairs.with_group, SX, RY)
        self.fails(InvalidPattern, plain.with_group, SX, RX)
        self.fails(InvalidPattern, plain.with_group, *SENDS)
        self.fails(InvalidPattern, Pattern(groups=(SENDS[:4], READS[:4]), **FIVE).with_group, SZ, ("read", "z"))
        self.fails(InvalidPattern, Pattern(groups=(SENDS[:4], READS[:3]), **FIVE).with_group, READS[0], SZ, READS[3])

    def test_without_group(self):
        for event in (SX, SY, RZ):
            self.same(GROUPED.without_group(event).groups, ((RX, RY),))
        self.same(GROUPED.without_group(RX).groups, ((RZ, SX, SY),))
        self.fails(InvalidOperation, GROUPED.without_group, SZ)
        self.fails(InvalidOperation, CROSS.without_group, SX)

    def test_renamed(self):
        one = GROUPED.renamed({"x": "y", "y": "x"})
        self.same(one.letters, {"x": None, "y": ("k",), "z": ("l", "m")})
        self.same((one.conditions, one.groups), (((SY, RX),), ((RX, RY), (RZ, SX, SY))))
        self.same(GROUPED.renamed({"z": "a"}).groups, ((("read", "a"), SX, SY), (RX, RY)))
        self.assertEqual(GROUPED.renamed({}), GROUPED)
        self.assertEqual(GROUPED.renamed({"x": "x"}), GROUPED)
        self.assertEqual(one.renamed({"x": "y", "y": "x"}), GROUPED)
        self.same(CROSS.renamed({"x": "b", "y": "a"}).conditions, ((("send", "a"), ("read", "b")), (("send", "b"), ("read", "a"))))

    def test_renamed_errors(self):
        for value in others(dict):
            self.fails(InvalidOperation, CROSS.renamed, value)
        for value in ({1: "a"}, {"A": "a"}, {"x": "A"}, {"x": None}, {"x": 5, "zz": "a"}, {"x": ["y"]}, {"x": ""},
                      {"zz": "a", "x": 1}, {"": "a"}, {("x",): "a"}):
            self.fails(InvalidOperation, CROSS.renamed, value)
        self.fails_with(UnknownName, "u", CROSS.renamed, {"z": "a", "u": "a", "x": "y"})
        self.fails(InvalidPattern, CROSS.renamed, {"x": "y"})
        self.fails(InvalidPattern, CROSS.renamed, {"x": "a", "y": "a"})

    def test_unknown_names(self):
        for value in VALUES:
            self.fails_with(UnknownName, value, CROSS.without_letter, value)
            self.fails_with(UnknownName, value, CROSS.without_group, value)
            for method in (CROSS.with_condition, CROSS.without_condition):
                self.fails_with(UnknownName, value, method, value, SX)
                self.fails_with(UnknownName, value, method, SX, value)
                self.fails_with(UnknownName, value, method, value, SZ)
            self.fails_with(UnknownName, value, CROSS.with_group, SX, value, SZ)
        self.fails_with(UnknownName, "z", CROSS.without_letter, "z")
        self.fails_with(UnknownName, SZ, CROSS.without_group, SZ)
        self.fails_with(UnknownName, SX, CROSS.without_letter, SX)

    def test_joined(self):
        other = Pattern(conditions=((SZ, ("read", "w")),), groups=((SZ, ("send", "w")),), w=("k",), z=None)
        both = STALE & other
        self.same(both.letters, {"w": ("k",), "x": ("order",), "y": ("report",), "z": None})
        self.same(both.conditions, tuple(sorted(STALE.conditions + other.conditions)))
        self.same(both.groups, ((RX, RY), (("send", "w"), SZ)))
        self.assertEqual(other & STALE, both)
        odd = Pattern.of({"self": None, "groups": None}, (), ()) & Pattern.of({"letters": ("k",)}, (), ())
        self.same(odd.letters, {"groups": None, "letters": ("k",), "self": None})

    def test_joined_errors(self):
        for value in others(Pattern):
            self.fails(InvalidOperation, lambda: CROSS & value)
        self.fails(InvalidOperation, lambda: CROSS & STALE)
        self.fails(InvalidOperation, lambda: Pattern(**FIVE) & Pattern(z=None))
        self.fails(InvalidOperation, lambda: CROSS & Pattern(y=None, z=None))
        self.fails(InvalidPattern, lambda: Pattern(**FIVE) & Pattern(u=None))
        four = Pattern(groups=(SENDS[:3], READS[:3]), v=None, w=None, x=None)
        more = Pattern(groups=((SY, SZ), (RY, RZ)), y=None, z=None)
        self.assertEqual(len(list(arrangements(four & more))), 144)

    def test_too_many_arrangements_by_joining(self):
        one = Pattern(groups=(SENDS[:4], READS[:3]), v=None, w=None, x=None, y=None)
        self.fails(InvalidPattern, one.with_letter("z").with_group, SZ, READS[3], READS[2])


class ValueTests(Case):
    def test_contains(self):
        for word, name in itertools.product(("send", "read", "come"), ("x", "y", "z")):
            self.assertIs((word, name) in CROSS, word != "come" and name != "z")
        for value in (*VALUES, "x", ["send", "x"], ("send", ["x"]), ("send", "x", "x")):
            self.assertIs(value in CROSS, False, value)

    def test_equal(self):
        self.assertEqual(CROSS, CROSS.renamed({"x": "y", "y": "x"}))
        self.assertFalse(CROSS != Pattern.of(CROSS.letters, CROSS.conditions, CROSS.groups))
        for other in (CROSS.with_letter("x", "k"), CROSS.without_condition(SX, RY), CROSS.with_group(SX, SY),
                      CROSS.with_letter("z"), CROSS.renamed({"x": "z"})):
            self.assertNotEqual(CROSS, other)
            self.assertTrue(CROSS != other)
        for value in VALUES:
            if value is not CROSS:
                self.assertIs(CROSS == value, False)

    def test_no_access(self):
        letters = {"x": None, "y": ("k",)}
        one = Pattern.of(letters, (), ())
        letters["z"] = None
        one.letters["z"] = None
        one.letters.clear()
        self.same(one.letters, {"x": None, "y": ("k",)})
        for name in ("letters", "conditions", "groups", "kinds"):
            self.assertRaises(AttributeError, setattr, one, name, ())

    def test_errors_change_nothing(self):
        before = (GROUPED.letters, GROUPED.conditions, GROUPED.groups)
        for action in (lambda: GROUPED.renamed({"x": "y"}), lambda: GROUPED.with_group(SX, RX), lambda: GROUPED & GROUPED,
                       lambda: GROUPED.without_letter("u"), lambda: GROUPED.with_letter("x", "other")):
            self.assertRaises(Exception, action)
        self.same((GROUPED.letters, GROUPED.conditions, GROUPED.groups), before)


class ArrangementTests(Case):
    def test_naive(self):
        for pattern in (CROSS, STALE, OVERTAKE, GROUPED, Pattern(groups=(SENDS[:3], READS[:3], READS[3:]), **FIVE)):
            wanted = sorted(itertools.product(*[itertools.permutations(group) for group in pattern.groups]))
            self.same(list(arrangements(pattern)), wanted)
            for value in wanted:
                self.assertIs(is_arrangement(pattern, value), True)

    def test_most(self):
        pattern = Pattern(groups=(SENDS[:4], READS[:4]), **FIVE)
        found = list(arrangements(pattern))
        self.assertEqual((len(found), found), (576, sorted(set(found))))

    def test_none_and_one(self):
        self.same(list(arrangements(CROSS)), [()])
        self.same(list(arrangements(STALE)), [((RX, RY),), ((RY, RX),)])

    def test_in_part_and_side_by_side(self):
        one, other = arrangements(OVERTAKE), arrangements(OVERTAKE)
        first, second = next(one), next(one)
        self.same((next(other), next(other)), (first, second))
        self.same((first, second), (((RX, RY), (SX, SY)), ((RX, RY), (SY, SX))))

    def test_is_arrangement(self):
        self.assertIs(is_arrangement(CROSS, ()), True)
        self.assertIs(is_arrangement(STALE, ((RY, RX),)), True)
        for value in (*VALUES, [(RX, RY)], ([RX, RY],), ((RX,),), ((RX, RX),), ((RX, RY, RX),), ((RX, RY), (SX, SY)), (RX, RY),
                      ((RX, SY),), ((RX, None),), ((RX, []),), ((RX, RZ),), (None,), ({RX: RY},), (((RX, RY),),)):
            self.assertIs(is_arrangement(STALE, value), False, value)
        self.assertIs(is_arrangement(OVERTAKE, ((SX, SY), (RX, RY))), False)

    def test_errors(self):
        for value in others(Pattern):
            self.fails(InvalidPattern, is_arrangement, value, ())
            found = arrangements(value)
            self.fails(InvalidPattern, next, found)


if __name__ == "__main__":
    unittest.main()
