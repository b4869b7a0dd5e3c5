"""[0.2], [0.4], [1.1], [1.2]: orders, rings and lines."""

import itertools
import random
import unittest

from letterrules.base import orders
from letterrules.base.letters import new_names
from letterrules.base.orders import MAX_THINGS, Order, is_ring, ring_of
from letterrules.errors import InvalidOperation, InvalidOrder, UnknownName
from support import DEEP, HUGE, VALUES, Case, closed_steps

EXAMPLES = """
>>> order = Order(("a", "b", "c", "d"), ("a", "b"), ("b", "d"), ("c", "d"))
>>> [order("a", "d"), order.past("d"), order.next_pairs, order.firsts, list(order.lines())[1]]
[True, ('a', 'b', 'c'), (('a', 'b'), ('b', 'd'), ('c', 'd')), ('a', 'c'), ('a', 'c', 'b', 'd')]
>>> [is_ring(("a", "b"), (("a", "b"), ("b", "a")), ("b", "a")), str(~order), (order | Order.line(("d", "e")))("a", "e"), new_names(2, without=("b",))]
[True, 'order of 4 things, 4 pairs', True, ('a', 'c')]
"""

SEND, READ = ("send", "a"), ("read", "a")
DIAMOND = Order(("d", "a", "c", "b"), ("a", "b"), ("a", "c"), ("b", "d"), ("c", "d"), ("a", "d"), ("a", "b"))
WRONG_THINGS = (
    None, 5, True, "ab", ["a"], {"a": 1}, ("a", "a"), (0, 0), (SEND, SEND), ("a", -1), (True,), (False, 1), (None,),
    ("A",), ("",), ("abcdefghi",), (("send",),), (["send", "a"],), (("come", "a"),), ((),), ([],), ({},), (-HUGE,),
    (Order(()),), Order(("a",)), DEEP, tuple(range(MAX_THINGS + 1)), tuple(range(1000)), ("a", "b", "a"),
)
WRONG_PAIRS = (
    None, 5, True, "ab", [("a", "b")], {("a", "b"): 1}, ("a", "b"), (["a", "b"],), (("a",),), (("a", "b", "b"),),
    (("a", "c"),), (("c", "a"),), (("a", None),), (([], "a"),), (("a", {}),), ((True, "a"),), (("a", Order(())),), ((),),
    (("a", "b"), ("a", "A")), (("a", "b"), None), Order(("a", "b")), DEEP, ((("a", "b"), ("a", "b")),),
)


def some_pairs(chance, things, many):
    """Pairs of the things that have no ring, in mixed up order."""
    mixed = list(things)
    chance.shuffle(mixed)
    return tuple(tuple(mixed[at] for at in sorted(chance.sample(range(len(mixed)), 2))) for _ in range(many))


class ExampleTests(Case):
    def test_examples(self):
        names = {"Order": Order, "is_ring": is_ring, "new_names": new_names}
        self.examples(EXAMPLES, names)

    def test_constant(self):
        self.same(MAX_THINGS, 240)
        self.assertEqual(orders.Order.__module__, "letterrules.base.orders")


class RingTests(Case):
    def test_none(self):
        for pairs in ((), (("a", "b"),), (("a", "b"), ("b", "c"), ("a", "c"), ("a", "b"))):
            self.assertIsNone(ring_of(("a", "b", "c"), pairs))
        self.assertIsNone(ring_of((), ()))

    def test_thing_with_itself(self):
        self.same(ring_of(("a", "b"), (("a", "b"), ("b", "b"))), ("b",))
        self.assertIs(is_ring(("a",), (("a", "a"),), ("a",)), True)
        self.assertIs(is_ring(("a",), (("a", "a"),), ("a", "a")), False)
        self.assertIs(is_ring(("a",), (), ("a",)), False)

    def test_long_rings(self):
        for many in (2, 3, 7, 50, 240):
            things = tuple(range(many))
            pairs = tuple((at, (at + 1) % many) for at in things)
            found = ring_of(things, pairs + pairs[:1])
            self.assertEqual(sorted(found), list(things))
            self.assertIs(is_ring(things, pairs, found), True)
            for turn in (1, many // 2, many - 1):
                self.assertIs(is_ring(things, pairs, found[turn:] + found[:turn]), True)
            self.assertIs(is_ring(things, pairs, found[::-1]), many == 2)
            self.assertIsNone(ring_of(things, pairs[1:]))

    def test_ring_behind_a_line(self):
        things = ("a", "b", "c", "d", "e")
        pairs = (("a", "b"), ("b", "c"), ("c", "d"), ("d", "c"), ("d", "e"), ("a", "e"))
        self.assertIn(ring_of(things, pairs), (("c", "d"), ("d", "c")))

    def test_is_ring_accepts_every_ring_only(self):
        things = ("a", SEND, 3, 0)
        pairs = (("a", SEND), (SEND, "a"), (SEND, 3), (3, "a"), (3, 3), (0, "a"))
        rings = {("a", SEND), ("a", SEND, 3), (3,)}
        turned = {ring[at:] + ring[:at] for ring in rings for at in range(len(ring))}
        for many in range(5):
            for value in itertools.product(things, repeat=many):
                self.assertIs(is_ring(things, pairs, value), value in turned, value)

    def test_is_ring_of_other_values(self):
        for value in (*VALUES, ["a", "b"], (True,), (1,), ("a", "c"), ("b", "a", []), (("a", "b"),)):
            wanted = isinstance(value, tuple) and value in (("a", "b"), ("b", "a"))
            self.assertIs(is_ring(("a", "b", 0), (("a", "b"), ("b", "a"), (0, "a")), value), wanted, value)
        self.assertIs(is_ring((1,), ((1, 1),), (True,)), False)

    def test_many_pairs(self):
        chance = random.Random(5)
        for _ in range(300):
            things = tuple(range(chance.randint(1, 7)))
            pairs = tuple((chance.choice(things), chance.choice(things)) for _ in range(chance.randint(0, 9)))
            ring = ring_of(things, pairs)
            self.assertEqual(ring is None, all(a != b for a, b in closed_steps(pairs)))
            if ring is None:
                Order(things, *pairs)
            else:
                self.assertIs(type(ring), tuple)
                self.assertIs(is_ring(things, pairs, ring), True)
                self.fails(InvalidOrder, Order, things, *pairs)

    def test_errors(self):
        for things in WRONG_THINGS:
            self.fails(InvalidOrder, ring_of, things, ())
            self.fails(InvalidOrder, is_ring, things, (), ("a",))
            self.fails(InvalidOrder, is_ring, things, None, None)
        for pairs in WRONG_PAIRS:
            self.fails(InvalidOrder, ring_of, ("a", "b"), pairs)
            self.fails(InvalidOrder, is_ring, ("a", "b"), pairs, ())


class MakingTests(Case):
    def test_nothing(self):
        order = Order(())
        self.assertEqual([order.things, order.pairs, order.next_pairs, order.firsts, order.lasts], [()] * 5)
        self.assertEqual([bool(order), len(order), list(order), list(order.lines())], [False, 0, [], [()]])
        self.assertEqual(str(order), "order of 0 things, 0 pairs")
        self.assertIs(order.is_line(()), True)
        self.assertEqual(order, ~order)
        self.assertEqual(order | order, order)

    def test_one_and_most(self):
        self.assertEqual(str(Order((HUGE,))), "order of 1 things, 0 pairs")
        line = Order.line(tuple(range(MAX_THINGS)))
        self.assertEqual(str(line), "order of 240 things, 28680 pairs")
        self.assertEqual(list(line.lines()), [tuple(range(MAX_THINGS))])
        self.assertEqual(len(line.next_pairs), 239)
        self.assertEqual((line(0, 239), line(239, 0), line(5, 5)), (True, False, False))
        self.fails(InvalidOrder, Order, tuple(range(MAX_THINGS + 1)))
        self.fails(InvalidOrder, Order.line, tuple(range(MAX_THINGS + 1)))
        self.fails(InvalidOrder, Order.of, tuple(range(MAX_THINGS + 1)), ())

    def test_kinds_of_things(self):
        order = Order(("a", SEND, READ, 0, HUGE), (SEND, READ), (READ, HUGE), ("a", 0))
        self.assertEqual(order.things, ("a", SEND, READ, 0, HUGE))
        self.assertEqual(order.past(HUGE), (SEND, READ))

    def test_of_and_line(self):
        self.assertEqual(Order.of(("a", "b"), (("a", "b"),)), Order(("a", "b"), ("a", "b")))
        self.assertEqual(Order.line(("b", "a", "c")), Order(("a", "b", "c"), ("b", "a"), ("a", "c")))
        self.assertEqual(Order.line(("b", "a", "c")).things, ("b", "a", "c"))
        self.assertEqual(Order.line(()), Order(()))
        self.assertEqual(Order.line(("a",)), Order(("a",)))

    def test_errors_of_things(self):
        for things in WRONG_THINGS:
            self.fails(InvalidOrder, Order, things)
            self.fails(InvalidOrder, Order, things, ("a", "b"))
            self.fails(InvalidOrder, Order, things, None)
            self.fails(InvalidOrder, Order.of, things, ())
            self.fails(InvalidOrder, Order.of, things, None)
            self.fails(InvalidOrder, Order.line, things)

    def test_errors_of_pairs(self):
        for pairs in WRONG_PAIRS:
            self.fails(InvalidOrder, Order.of, ("a", "b"), pairs)
            if isinstance(pairs, tuple) and pairs:
                self.fails(InvalidOrder, Order, ("a", "b"), *pairs)

    def test_rings_are_refused(self):
        for pairs in ((("a", "a"),), (("a", "b"), ("b", "a")), (("a", "b"), ("b", "c"), ("c", "a"))):
            self.fails(InvalidOrder, Order, ("a", "b", "c"), *pairs)
            self.fails(InvalidOrder, Order.of, ("a", "b", "c"), pairs)


class OrderTests(Case):
    def test_diamond(self):
        self.same(DIAMOND.things, ("d", "a", "c", "b"))
        self.same(DIAMOND.pairs, (("a", "d"), ("a", "c"), ("a", "b"), ("c", "d"), ("b", "d")))
        self.same(DIAMOND.next_pairs, (("a", "c"), ("a", "b"), ("c", "d"), ("b", "d")))
        self.same((DIAMOND.firsts, DIAMOND.lasts), (("a",), ("d",)))
        self.same((DIAMOND.past("d"), DIAMOND.future("a")), (("a", "c", "b"), ("d", "c", "b")))
        self.same((DIAMOND.past("a"), DIAMOND.future("d"), DIAMOND.future("c")), ((), (), ("d",)))
        self.same(tuple(DIAMOND.lines()), (("a", "c", "b", "d"), ("a", "b", "c", "d")))
        self.same(str(DIAMOND), "order of 4 things, 5 pairs")
        self.same((list(DIAMOND), len(DIAMOND), bool(DIAMOND)), (["d", "a", "c", "b"], 4, True))

    def test_firsts_and_lasts_as_told(self):
        order = Order(("z", "b", "a", "y"), ("a", "b"), ("z", "b"))
        self.same((order.firsts, order.lasts), (("z", "a", "y"), ("b", "y")))

    def test_call(self):
        for one, other in itertools.product(DIAMOND, repeat=2):
            self.assertIs(DIAMOND(one, other), (one, other) in DIAMOND.pairs)

    def test_call_errors(self):
        for value in VALUES:
            if value == "a" and isinstance(value, str):
                continue
            self.fails_with(UnknownName, value, DIAMOND, value, "a")
            self.fails_with(UnknownName, value, DIAMOND, "a", value)
            self.fails_with(UnknownName, value, DIAMOND, value, None)
            self.fails_with(UnknownName, value, DIAMOND.past, value)
            self.fails_with(UnknownName, value, DIAMOND.future, value)
        self.fails_with(UnknownName, True, Order((1, 0)), 1, True)
        self.fails_with(UnknownName, False, Order((1, 0)).past, False)

    def test_only(self):
        part = DIAMOND.only(("b", "d", "a"))
        self.same((part.things, part.pairs), (("b", "d", "a"), (("b", "d"), ("a", "b"), ("a", "d"))))
        self.same(DIAMOND.only(()), Order(()))
        self.same(DIAMOND.only(("d", "a")), Order(("a", "d"), ("a", "d")))
        self.assertEqual(DIAMOND.only(("a", "b", "c", "d")), DIAMOND)
        self.same(DIAMOND.only(("a", "b", "c", "d")).things, ("a", "b", "c", "d"))

    def test_only_errors(self):
        for things in WRONG_THINGS:
            if not isinstance(things, tuple) or len(things) <= MAX_THINGS:
                self.fails(InvalidOrder, DIAMOND.only, things)
        self.fails(InvalidOrder, DIAMOND.only, ("x", "a", "a"))
        self.fails(InvalidOrder, DIAMOND.only, ("x", None))
        self.fails_with(UnknownName, "x", DIAMOND.only, ("a", "x", "y"))
        self.fails_with(UnknownName, SEND, DIAMOND.only, (SEND, 0))
        self.fails_with(UnknownName, 0, DIAMOND.only, tuple(range(241)))

    def test_join(self):
        both = Order(("a", "b"), ("a", "b")) | Order(("c", "b", "d"), ("b", "c"))
        self.same(both.things, ("a", "b", "c", "d"))
        self.same(both.pairs, (("a", "b"), ("a", "c"), ("b", "c")))
        self.assertEqual(DIAMOND | DIAMOND, DIAMOND)
        most = Order(tuple(range(120))) | Order(tuple(range(120, 240)))
        self.same(len(most), 240)

    def test_join_errors(self):
        for value in VALUES:
            if not isinstance(value, Order):
                self.fails(InvalidOperation, lambda: DIAMOND | value)
        self.fails(InvalidOrder, lambda: Order.line(("a", "b")) | Order.line(("b", "a")))
        self.fails(InvalidOrder, lambda: Order.line(("a", "b", "c")) | Order.line(("c", "x", "a")))
        self.fails(InvalidOrder, lambda: Order(tuple(range(120))) | Order(tuple(range(119, 241))) | Order(("a",)))

    def test_turned(self):
        self.same((~DIAMOND).things, DIAMOND.things)
        self.same((~DIAMOND).pairs, (("d", "a"), ("d", "c"), ("d", "b"), ("c", "a"), ("b", "a")))
        self.assertEqual(~~DIAMOND, DIAMOND)
        self.assertNotEqual(~DIAMOND, DIAMOND)

    def test_is_within(self):
        small = Order(("a", "b", "c", "d"), ("a", "d"))
        self.assertIs(small.is_within(DIAMOND), True)
        self.assertIs(DIAMOND.is_within(small), False)
        self.assertIs(DIAMOND.is_within(DIAMOND), True)
        self.assertIs(small.is_within(DIAMOND | Order(("e",))), False)
        self.assertIs(Order(("a", "b")).is_within(Order(("a", "c"))), False)
        for value in VALUES:
            self.assertIs(DIAMOND.is_within(value), False, value)

    def test_equal(self):
        self.assertEqual(DIAMOND, Order.of(("a", "b", "c", "d"), DIAMOND.next_pairs))
        self.assertTrue(DIAMOND != Order(("a", "b", "c", "d")))
        self.assertTrue(Order(("a", "b", "c", "d")) != DIAMOND)
        self.assertFalse(DIAMOND != Order(("a", "b", "c", "d"), *DIAMOND.pairs))
        self.assertNotEqual(Order(("a", "b")), Order(("a", "b", "c")))
        for value in VALUES:
            self.assertIs(DIAMOND == value, False, value)
            self.assertIs(DIAMOND != value, True, value)

    def test_contains(self):
        for value in VALUES:
            self.assertIs(value in DIAMOND, isinstance(value, str) and value == "a", value)
        self.assertIs(SEND in Order((SEND, 1)), True)
        self.assertIs(True in Order((SEND, 1)), False)
        self.assertIs(READ in Order((SEND, 1)), False)

    def test_lines_in_part(self):
        order = Order(tuple(range(240)))
        one, other = order.lines(), order.lines()
        first = next(one)
        self.same(first, tuple(range(240)))
        self.same(next(one), (*range(238), 239, 238))
        self.same(next(other), first)
        self.same(next(one), (*range(237), 238, 237, 239))
        self.same(next(other), (*range(238), 239, 238))

    def test_is_line(self):
        self.assertIs(DIAMOND.is_line(("a", "b", "c", "d")), True)
        for value in (("a", "b", "d", "c"), ("a", "b", "c"), ("a", "b", "c", "d", "d"), ["a", "b", "c", "d"], ("a",) * 4,
                      ("a", "b", "c", "e"), ("a", "b", "c", None), ("a", "b", "c", []), *VALUES):
            self.assertIs(DIAMOND.is_line(value), False, value)
        self.assertIs(Order((0, 1)).is_line((False, True)), False)

    def test_attributes_that_take_part_in_nothing(self):
        for name in ("things", "pairs", "next_pairs", "firsts", "lasts"):
            self.assertIs(getattr(DIAMOND, name) == getattr(DIAMOND, name), True)
            self.assertRaises(AttributeError, setattr, DIAMOND, name, ())

    def test_errors_change_nothing(self):
        before = (DIAMOND.things, DIAMOND.pairs, str(DIAMOND), list(DIAMOND.lines()))
        for action in (lambda: DIAMOND("x", "a"), lambda: DIAMOND.only(("x",)), lambda: DIAMOND | 5,
                       lambda: DIAMOND | ~DIAMOND, lambda: DIAMOND.past([])):
            self.assertRaises(Exception, action)
        self.assertEqual((DIAMOND.things, DIAMOND.pairs, str(DIAMOND), list(DIAMOND.lines())), before)

    def test_returned_values_give_no_access(self):
        for value in (DIAMOND.things, DIAMOND.pairs, DIAMOND.next_pairs, DIAMOND.firsts, DIAMOND.lasts,
                      DIAMOND.past("d"), DIAMOND.future("a"), next(DIAMOND.lines())):
            self.assertIs(type(value), tuple)
        for value in (DIAMOND.pairs, DIAMOND.next_pairs):
            self.assertTrue(all(type(pair) is tuple for pair in value))


class NaiveTests(Case):
    def test_small_orders(self):
        chance = random.Random(11)
        for _ in range(150):
            things = tuple(chance.sample(("a", "b", "c", SEND, READ, 0), chance.randint(2, 5)))
            pairs = some_pairs(chance, things, chance.randint(0, 6))
            order = Order(things, *pairs)
            all_pairs = closed_steps(pairs)
            told = [pair for pair in itertools.product(things, repeat=2) if pair in all_pairs]
            self.same(order.pairs, tuple(told))
            near = [(a, b) for a, b in told if not any((a, c) in told and (c, b) in told for c in things)]
            self.same(order.next_pairs, tuple(near))
            self.same(order.firsts, tuple(c for c in things if not any((a, c) in told for a in things)))
            self.same(order.lasts, tuple(c for c in things if not any((c, a) in told for a in things)))
            lines = [line for line in itertools.permutations(things)
                     if all(line.index(a) < line.index(b) for a, b in told)]
            self.same(list(order.lines()), lines)
            for line in itertools.permutations(things):
                self.assertIs(order.is_line(line), line in lines)
            for thing in things:
                self.same(order.past(thing), tuple(a for a in things if (a, thing) in told))
                self.same(order.future(thing), tuple(a for a in things if (thing, a) in told))
            part = tuple(chance.sample(things, chance.randint(0, len(things))))
            wanted = [pair for pair in itertools.product(part, repeat=2) if pair in all_pairs]
            self.same(order.only(part).pairs, tuple(wanted))


if __name__ == "__main__":
    unittest.main()
