"""[0.11], [6.1], [6.2]: own orders, their rings, pairs, late letters and crowns."""

import itertools
import random
import unittest

from letterrules.base.orders import Order
from letterrules.errors import InvalidOperation, InvalidOrder, InvalidPattern, NoOrder, TooMany, UnknownName
from letterrules.own.orders import (
    OwnOrder, crown_in, is_crown_in, is_late_in, is_pair_in, is_ring_in, late_in, own_orders, pair_in, ring_in,
)
from letterrules.rules.patterns import Pattern, Rule, arrangements
from support import (
    CROSS, LAST, OVERTAKE, STALE, VALUES, Case, closed_steps, given_steps, many_patterns, others, some_pattern,
)

EXAMPLES = """
>>> cross, stale = [next(own_orders(pattern)) for pattern in (CROSS, STALE)]
>>> [[order.run_set, late_in(order), crown_in(order), str(order)] for order in (cross, stale)]
[['causal', None, ('x', 'y'), 'order of 2 letters, 4 pairs'], ['pairs', ('x', ('read', 'y')), ('x', 'y'), 'order of 2 letters, 6 pairs']]
"""

SX, SY, RX, RY = ("send", "x"), ("send", "y"), ("read", "x"), ("read", "y")
FIVE = Pattern(v=None, w=None, x=None, y=None, z=None)


def all_of(pattern):
    """All arrangements with what is given ahead, and what follows from it."""
    for arrangement in arrangements(pattern):
        steps = given_steps(pattern, arrangement)
        yield arrangement, steps, closed_steps(steps)


def events_of(pattern):
    return tuple(sorted((word, name) for word in ("send", "read") for name in pattern))


def is_naive_ring(steps, ring):
    if not ring or len(set(ring)) != len(ring):
        return False
    return all((ring[at - 1], ring[at]) in steps for at in range(len(ring)))


def has_ring(pairs):
    return any(one == other for one, other in pairs)


def together(pattern, one, other):
    return any({one, other} <= set(group) for group in pattern.groups)


def naive_pairs(pattern, ahead):
    found = []
    for x, y in itertools.permutations(pattern, 2):
        sends, reads = (("send", x), ("send", y)), (("read", y), ("read", x))
        if sends in ahead and reads in ahead and together(pattern, *sends) and together(pattern, *reads):
            found.append((x, y))
    return sorted(found)


def naive_lates(pattern, ahead):
    return sorted((y, event) for y in pattern for event in events_of(pattern)
                  if (("send", y), event) in ahead and (event, ("read", y)) in ahead)


def naive_crowns(pattern, ahead):
    rows = [row for many in range(2, len(pattern) + 1) for row in itertools.permutations(pattern, many)]
    return [row for row in rows
            if all((("send", row[at - 1]), ("read", row[at])) in ahead for at in range(len(row)))]


def naive_set(pattern, ahead):
    if not naive_crowns(pattern, ahead):
        return "single"
    if not naive_lates(pattern, ahead):
        return "causal"
    return "all" if naive_pairs(pattern, ahead) else "pairs"


class ExampleTests(Case):
    def test_examples(self):
        self.examples(EXAMPLES, dict(globals()))


class RingTests(Case):
    def test_rings_of_many_patterns(self):
        many = 0
        for pattern in many_patterns(61, 80):
            for arrangement, steps, pairs in all_of(pattern):
                ring = ring_in(pattern, arrangement)
                self.assertEqual(ring is not None, has_ring(pairs))
                if ring is not None:
                    many += 1
                    self.assertTrue(is_naive_ring(steps, ring))
                    self.assertTrue(is_ring_in(pattern, arrangement, ring))
                    for at in range(len(ring)):
                        self.assertTrue(is_ring_in(pattern, arrangement, (*ring[at:], *ring[:at])))
                    held = self.fails(NoOrder, OwnOrder, pattern, arrangement)
                    self.assertTrue(is_naive_ring(steps, held.ring))
        self.assertGreater(many, 100)

    def test_the_judge_accepts_every_ring_and_nothing_else(self):
        found = 0
        for pattern in many_patterns(62, 12, most=3):
            for arrangement, steps, _ in all_of(pattern):
                events = events_of(pattern)
                for many in range(len(events) + 1 if len(events) < 6 else 5):
                    for row in itertools.permutations(events, many):
                        wanted = is_naive_ring(steps, row)
                        found += wanted
                        self.assertIs(is_ring_in(pattern, arrangement, row), wanted)
        self.assertGreater(found, 10)

    def test_steps_that_are_given_and_not_what_follows(self):
        pattern = Pattern(conditions=((RX, SY), (RY, SX)), x=None, y=None)
        self.assertTrue(is_ring_in(pattern, (), (RY, SX, RX, SY)))
        self.assertFalse(is_ring_in(pattern, (), (SX, SY)))
        self.assertFalse(is_ring_in(pattern, (), (RX, RY)))
        self.assertFalse(is_ring_in(pattern, (), (SY, RX, SX, RY)))
        row = (SX, SY, ("send", "z"))
        pattern = Pattern(groups=(row,), conditions=((("send", "z"), SX),), x=None, y=None, z=None)
        self.assertTrue(is_ring_in(pattern, (row,), row))
        self.assertFalse(is_ring_in(pattern, (row,), (SX, ("send", "z"))))

    def test_a_ring_of_one_event(self):
        pattern = Pattern(conditions=((RX, RX),), x=None)
        self.same(ring_in(pattern, ()), (RX,))
        self.fails_with(NoOrder, (RX,), OwnOrder, pattern, ())
        self.assertFalse(is_ring_in(pattern, (), (SX,)))
        self.assertFalse(is_ring_in(pattern, (), (RX, RX)))
        self.same(list(own_orders(pattern)), [])

    def test_rings_for_some_arrangements(self):
        pattern = Pattern(conditions=((SX, SY),), groups=((SX, SY),), x=None, y=None)
        self.assertIsNone(ring_in(pattern, ((SX, SY),)))
        self.assertTrue(is_naive_ring({(SX, SY), (SY, SX)}, ring_in(pattern, ((SY, SX),))))
        self.same([order.arrangement for order in own_orders(pattern)], [((SX, SY),)])

    def test_wrong_values(self):
        for function in (ring_in, OwnOrder):
            for value in others(Pattern):
                self.fails(InvalidPattern, function, value, ())
                self.fails(InvalidPattern, function, value, 5)
            for value in (*others(tuple), (SX,), ((SX, SY),), ((),), (5,)):
                self.fails(InvalidOperation, function, CROSS, value)
            for value in ((), ((RX, RY), (SX, SY), ()), ((SX, SY), (RX, RY)), ((RX, RY), (SX, SX)), [(RX, RY), (SX, SY)]):
                self.fails(InvalidOperation, function, OVERTAKE, value)
        for value in others(Pattern):
            self.fails(InvalidPattern, is_ring_in, value, (), ())
        self.fails(InvalidOperation, is_ring_in, CROSS, ((),), 5)
        self.fails(InvalidPattern, is_ring_in, None, ((),), 5)
        cycle = Pattern(conditions=((RX, SX),), x=None)
        for value in (*VALUES, [SX, RX], (SX, ["read", "x"]), (RX, SX, "x"), ("x",), (SX, RX, SX, RX)):
            self.assertIs(is_ring_in(cycle, (), value), False)
        for value in ((SX, RX), (RX, SX)):
            self.assertIs(is_ring_in(cycle, (), value), True)
            self.assertIs(is_ring_in(Pattern(x=None), (), value), False)


class OrderTests(Case):
    def test_many_patterns(self):
        seen = set()
        for pattern in many_patterns(63, 80):
            rows = [row for row in all_of(pattern) if not has_ring(row[2])]
            orders = list(own_orders(pattern))
            self.same([order.arrangement for order in orders], [row[0] for row in rows])
            for order, (arrangement, _, ahead) in list(zip(orders, rows))[:12]:
                self.assertEqual(order, OwnOrder(pattern, arrangement))
                self.look(order, pattern, ahead)
                seen.add(order.run_set)
        self.assertEqual(seen, {"all", "pairs", "causal", "single"})

    def look(self, order, pattern, ahead):
        events = events_of(pattern)
        self.assertIs(order.pattern, pattern)
        self.same(order.events, events)
        self.same(tuple(order), tuple(sorted(ahead)))
        self.same((len(order), bool(order)), (len(ahead), True))
        self.same(str(order), f"order of {len(pattern)} letters, {len(ahead)} pairs")
        near = {(e, f) for e, f in ahead if not any((e, g) in ahead and (g, f) in ahead for g in events)}
        self.same(order.next_pairs, tuple(sorted(near)))
        for e in events:
            self.same(order[e], tuple(f for f in events if (e, f) in ahead))
            for f in events:
                self.assertIs(order(e, f), (e, f) in ahead)
                self.assertIs((e, f) in order, (e, f) in ahead)
                self.same(order.between(e, f), tuple(g for g in events if (e, g) in ahead and (g, f) in ahead))
        self.same(order.run_set, naive_set(pattern, ahead))

    def test_pairs_late_letters_and_crowns(self):
        chance = random.Random(64)
        patterns = [CROSS, OVERTAKE, STALE, *many_patterns(64, 50)]
        patterns += [some_pattern(chance, 3, chance.randint(0, 2), 3) for _ in range(20)]
        for pattern in patterns:
            for arrangement, _, ahead in list(all_of(pattern))[:8]:
                if not has_ring(ahead):
                    self.look_at_bars(OwnOrder(pattern, arrangement), pattern, ahead)

    def look_at_bars(self, order, pattern, ahead):
        pairs, lates, crowns = naive_pairs(pattern, ahead), naive_lates(pattern, ahead), naive_crowns(pattern, ahead)
        self.same(pair_in(order), pairs[0] if pairs else None)
        self.same(late_in(order), lates[0] if lates else None)
        self.same(crown_in(order), min(crowns, key=lambda crown: (len(crown), crown)) if crowns else None)
        for many in range(6):
            for row in itertools.islice(itertools.permutations(pattern, many), 130):
                self.assertIs(is_crown_in(order, row), row in crowns)
                self.assertIs(is_pair_in(order, row), row in pairs)
        for row in itertools.product(pattern, order.events):
            self.assertIs(is_late_in(order, row), row in lates)
        for x, y in pairs:
            self.assertTrue(is_late_in(order, (x, ("read", y))))
        for y, (_, w) in lates:
            self.assertTrue(is_crown_in(order, (y, w)))

    def test_a_pair_needs_groups_for_both(self):
        for pattern in (OVERTAKE.without_group(RX), OVERTAKE.without_group(SX)):
            for order in own_orders(pattern):
                self.same((pair_in(order), order.run_set), (None, "pairs"))
                self.assertFalse(is_pair_in(order, ("x", "y")))
        (order,) = own_orders(OVERTAKE)
        self.same((pair_in(order), order.run_set, is_pair_in(order, ("y", "x"))), (("x", "y"), "all", False))

    def test_the_least_crown_has_the_fewest_names(self):
        steps = ((("send", "a"), ("read", "b")), (("send", "b"), ("read", "c")), (("send", "c"), ("read", "a")))
        pattern = Pattern.of(dict.fromkeys("abc"), steps, ())
        (order,) = own_orders(pattern)
        self.same((crown_in(order), order.run_set), (("a", "b", "c"), "causal"))
        (order,) = own_orders(pattern.with_condition(("send", "c"), ("read", "b")))
        self.same(crown_in(order), ("b", "c"))
        self.assertTrue(is_crown_in(order, ("c", "a", "b")))
        self.assertFalse(is_crown_in(order, ("a", "c", "b")))

    def test_conditions_that_follow_or_are_repeated(self):
        one = Pattern(conditions=((SX, SY), (SY, SX)[::-1], (SX, RY), (SX, RX)), x=None, y=None)
        other = Pattern(conditions=((SX, SY),), x=None, y=None)
        (order,), (plain,) = own_orders(one), own_orders(other)
        self.same(tuple(order), tuple(plain))
        self.same(order.next_pairs, ((SX, RX), (SX, SY), (SY, RY)))
        self.assertFalse(order == plain)
        self.assertTrue(order.is_within(plain) and plain.is_within(order))

    def test_rows(self):
        for pattern in (CROSS, STALE, OVERTAKE, Pattern(x=None), *many_patterns(65, 20, most=3)):
            for arrangement, _, ahead in list(all_of(pattern))[:3]:
                if not has_ring(ahead):
                    order = OwnOrder(pattern, arrangement)
                    wanted = [row for row in itertools.permutations(events_of(pattern))
                              if all(row.index(e) < row.index(f) for e, f in ahead)]
                    self.same(list(order.all_rows()), wanted)

    def test_rows_in_part_and_twice(self):
        (order,) = own_orders(Pattern(w=None, x=None, y=None, z=None))
        one, other = order.all_rows(), order.all_rows()
        first = next(one)
        self.same([next(other), next(other)][0], first)
        self.same(len([first, *one]), 2520)
        self.same(len(list(other)), 2518)
        five = next(own_orders(FIVE)).all_rows()
        self.fails_with(TooMany, 4, next, five)
        self.same(list(five), [])

    def test_own_orders_in_part_and_twice(self):
        one, other = own_orders(STALE), own_orders(FIVE.with_group(("send", "x"), ("send", "y")))
        again = own_orders(FIVE.with_group(("send", "x"), ("send", "y")))
        self.assertEqual([next(one), next(other)], [next(own_orders(STALE)), next(again)])
        self.assertEqual([*other], [*again])
        self.same(list(one), [])
        for value in others(Pattern):
            steps = own_orders(value)
            self.fails(InvalidPattern, next, steps)

    def test_wrong_events(self):
        (order,) = own_orders(STALE)
        for value in (*VALUES, ("send", "z"), ("sent", "x"), ["send", "x"], "x", ("send", ["x"]), (SX, RX)):
            self.fails_with(UnknownName, value, order, value, SX)
            self.fails_with(UnknownName, value, order, SX, value)
            self.fails_with(UnknownName, value, order, value, 5)
            self.fails_with(UnknownName, value, order.between, value, None)
            self.fails_with(UnknownName, value, order.between, RY, value)
            with self.assertRaises(UnknownName) as held:
                order[value]
            self.assertEqual(held.exception.name, value)

    def test_values_in_it(self):
        (order,) = own_orders(CROSS)
        for value in (*VALUES, order, [SX, RX], (SX, RX, RX), (SX, "x"), (RX, SX), (SX,)):
            self.assertIs(value in order, False)
        self.assertIs((SX, RX) in order, True)

    def test_is_within(self):
        (cross,), (stale,) = own_orders(CROSS), own_orders(STALE)
        free = OwnOrder(Pattern(x=None, y=None), ())
        for one, other, wanted in ((free, cross, True), (free, stale, True), (cross, stale, True), (stale, cross, False),
                                   (cross, cross, True), (cross, free, False), (stale, free, False)):
            self.assertIs(one.is_within(other), wanted)
        self.assertTrue(OwnOrder(Pattern(x=("k",)), ()).is_within(cross))
        for value in VALUES:
            self.assertIs(cross.is_within(value), False)
        self.assertIs(cross.is_within(Order(cross.events)), False)

    def test_equal(self):
        (cross,), (again,) = own_orders(CROSS), own_orders(CROSS)
        self.assertTrue(cross == again and not cross != again)
        for value in VALUES:
            self.assertTrue(cross != value and not cross == value)
        group = Pattern(groups=((SX, SY),), x=None, y=None)
        one, other = own_orders(group)
        self.assertTrue(one != other)
        self.assertTrue(one != OwnOrder(Pattern(conditions=((SX, SY),), x=None, y=None), ()))
        self.assertTrue(OwnOrder(Pattern(x=None), ()) != OwnOrder(Pattern(x=("k",)), ()))

    def test_wrong_orders(self):
        for value in others(OwnOrder):
            for function in (pair_in, late_in, crown_in):
                self.fails(InvalidOrder, function, value)
            for function in (is_pair_in, is_late_in, is_crown_in):
                self.fails(InvalidOrder, function, value, 5)

    def test_wrong_values_for_judges(self):
        (order,) = own_orders(OVERTAKE)
        wrong = (*VALUES, order, ["x", "y"], ("x", "z"), ("x", "x"), ("x", ["y"]), (["x"], "y"), ("x", "y", "x"),
                 ("x", True), ("z", SX), ("x", ("read", "z")), ("x", ["read", "y"]), ["x", RY])
        for value in wrong:
            for function in (is_pair_in, is_late_in, is_crown_in):
                self.assertIs(function(order, value), False)
        self.assertIs(is_pair_in(order, ("x", "y")), True)
        self.assertIs(is_late_in(order, ("x", RY)), True)
        self.assertIs(is_crown_in(order, ("y", "x")), True)
        self.assertIs(is_crown_in(order, ("x",)), False)
        self.assertIs(is_crown_in(order, ("x", "y", "x", "y")), False)
        self.assertIs(is_late_in(order, ("x", RX)), False)

    def test_it_never_changes(self):
        (order,) = own_orders(STALE)
        before = (str(order), tuple(order), order.events)
        order.pattern.letters["x"] = None
        list(order.all_rows())
        self.same((str(order), tuple(order), order.events), before)
        for name in ("pattern", "arrangement", "events", "next_pairs", "run_set"):
            self.fails(AttributeError, setattr, order, name, 5)
        self.same((order.pattern, order.arrangement), (STALE, ((RY, RX),)))


if __name__ == "__main__":
    unittest.main()
