"""[0.2], [0.4], [0.8], [2.1], [2.2]: runs."""

import itertools
import random
import unittest

from letterrules.base.letters import new_names
from letterrules.errors import InvalidName, InvalidOperation, InvalidRun, TooMany, UnknownName
from letterrules.runs import runs
from letterrules.runs.runs import MAX_LETTERS, MAX_PROCESSES, Run, event_orders, is_event_order
from support import HUGE, LAST, VALUES, Case, naive_ahead, others, rows_of, run_of, some_run

EXAMPLES = """
>>> [LAST(("send", "a"), ("read", "c")), LAST.place(("read", "a")), LAST.until(("send", "c")).unread, str(LAST)]
[True, ('q', 1), ('a', 'c'), 'run of 3 letters, 3 processes']
>>> [list(LAST)[:3], LAST.mirrored().rows["q"], LAST.only("a", "c").rows["p"]]
[[('send', 'a'), ('send', 'b'), ('read', 'b')], (('send', 'a'), ('send', 'c')), (('send', 'a'),)]
"""

A, B = ("k", "p", "q"), ("k", "q", "p")
OPEN = run_of("p +a +b -c, q -b +c +d", b="order")


def many_letters(many):
    """A whole run with so many letters from p to q."""
    names = new_names(many)
    sent, read = tuple(("send", name) for name in names), tuple(("read", name) for name in names)
    return {name: ("k", "p", "q") for name in names}, {"p": sent, "q": read}


class ExampleTests(Case):
    def test_examples(self):
        self.examples(EXAMPLES, {"LAST": LAST})

    def test_constants(self):
        self.same((MAX_LETTERS, MAX_PROCESSES), (60, 40))
        self.assertEqual(runs.Run.__module__, "letterrules.runs.runs")


class MakingTests(Case):
    def test_nothing(self):
        run = Run({}, {})
        self.assertEqual([run.letters, run.rows, run.processes, run.order, run.unread], [{}, {}, (), (), ()])
        self.assertEqual([run.is_whole, bool(run), len(run), list(run)], [True, False, 0, []])
        self.same(str(run), "run of 0 letters, 0 processes")
        self.assertEqual(run.mirrored(), run)

    def test_processes_without_letters(self):
        run = Run({}, {"q": (), "p": ()})
        self.same(run.processes, ("p", "q"))
        self.same(run.rows, {"p": (), "q": ()})
        self.assertFalse(run)
        self.assertNotEqual(run, Run({}, {"p": ()}))

    def test_rows_that_are_left_out(self):
        run = Run({"b": ("k", "z", "c"), "a": ("k", "z", "b")}, {"z": (("send", "b"), ("send", "a"))})
        self.same(run.processes, ("b", "c", "z"))
        self.same(run.rows, {"b": (), "c": (), "z": (("send", "b"), ("send", "a"))})
        self.same(run.letters, {"a": ("k", "z", "b"), "b": ("k", "z", "c")})
        self.same((run.unread, run.is_whole), (("a", "b"), False))
        self.assertEqual(run, Run(run.letters, run.rows))

    def test_whole_and_not_whole(self):
        self.same((LAST.unread, LAST.is_whole), ((), True))
        self.same((OPEN.unread, OPEN.is_whole), (("a", "d"), False))
        self.same(OPEN.processes, ("lost", "p", "q"))

    def test_wrong_letters(self):
        for value in others(dict):
            self.fails(InvalidRun, Run, value, {})
        for value in ({1: A}, {"A": A}, {"": A}, {True: A}, {None: A}, {("a",): A}, {"abcdefghi": A}):
            self.fails(InvalidRun, Run, value, {"p": (("send", "a"),)})
        for value in (("k", "p", "p"), ["k", "p", "q"], ("k", "p"), ("K", "p", "q"), ("k", "p", 1), None, 5, "kpq", {},
                      ("k", "p", "q", "r"), ("k", ["p"], "q"), LAST, (LAST, "p", "q")):
            self.fails(InvalidRun, Run, {"a": value}, {"p": (("send", "a"),)})
            self.fails(InvalidRun, Run, {"a": value}, {})

    def test_wrong_rows(self):
        for value in others(dict):
            self.fails(InvalidRun, Run, {}, value)
        for row in others(tuple):
            self.fails(InvalidRun, Run, {"a": A}, {"p": (("send", "a"),), "q": row})
        for key in (1, True, None, "", "A", "abcdefghi", ("p",), HUGE):
            self.fails(InvalidRun, Run, {"a": A}, {"p": (("send", "a"),), key: ()})
            self.fails(InvalidRun, Run, {}, {key: ()})
        for event in others(Run):
            self.fails(InvalidRun, Run, {"b": A}, {"p": (("send", "b"), event)})
        self.fails(InvalidRun, Run, {"b": A}, {"p": (["send", "b"],)})

    def test_each_way_to_fail(self):
        both = {"a": A, "b": B}
        for text in (
                "", "p +a", "p +a +c", "p +c, q +b", "p +a, q +b +b", "p +a +a, q +b", "p +a -b -b, q +b", "p +b, q +a",
                "p +a +b, q -b", "p +a -a, q +b", "q +a +b", "r +a, q +b", "p +a, q +b, r -a", "p +a +c, q +b",
                "p +a -c, q +b", "p -b +a, q -a +b", "p -b +b +a, q +b"):
            self.fails(InvalidRun, Run, both, rows_of(text))
        Run(both, rows_of("p +a, q +b"))
        Run(both, rows_of("p +a -b, q -a +b"))
        Run(both, rows_of("p -b +a, q +b"))

    def test_rings(self):
        ring = {"a": ("k", "p", "q"), "b": ("k", "q", "r"), "c": ("k", "r", "p")}
        self.fails(InvalidRun, Run, ring, rows_of("p -c +a, q -a +b, r -b +c"))
        Run(ring, rows_of("p +a -c, q -a +b, r -b +c"))
        late = {"a": ("k", "p", "q"), "b": ("k", "p", "q"), "c": ("k", "q", "p")}
        self.fails(InvalidRun, Run, late, rows_of("p +a -c +b, q -b -a +c"))

    def test_limits(self):
        letters, rows = many_letters(60)
        self.same(str(Run(letters, rows)), "run of 60 letters, 2 processes")
        self.assertEqual(len(Run(letters, rows).order), 120)
        letters, rows = many_letters(61)
        self.fails_with(TooMany, 60, Run, letters, rows)
        processes = {name: () for name in new_names(40)}
        self.same(str(Run({}, processes)), "run of 0 letters, 40 processes")
        wide = {name: () for name in new_names(41)}
        self.fails_with(TooMany, 40, Run, {}, wide)
        self.fails_with(TooMany, 60, Run, letters, {**wide, **rows})
        spread = {name: ("k", "zz", name) for name in new_names(40)}
        sends = tuple(("send", name) for name in spread)
        self.fails_with(TooMany, 40, Run, spread, {"zz": sends})

    def test_what_is_due_first(self):
        letters, rows = many_letters(61)
        self.fails(InvalidRun, Run, {**letters, "A": A}, rows)
        self.fails(InvalidRun, Run, letters, {**rows, "q": rows["q"] + rows["q"][:1]})
        self.fails(InvalidRun, Run, letters, {**rows, "A": ()})
        self.fails(InvalidRun, Run, letters, {"p": rows["p"][1:]})
        wide = {name: () for name in new_names(41)}
        self.fails(InvalidRun, Run, {"a": ("k", "a", "b"), "b": ("k", "b", "a")},
                   {**wide, "a": (("read", "b"), ("send", "a")), "b": (("read", "a"), ("send", "b"))})
        self.fails(InvalidRun, Run, None, None)

    def test_what_is_passed_gives_no_access(self):
        letters, rows = {"a": A}, {"p": (("send", "a"),)}
        run = Run(letters, rows)
        letters["b"] = B
        rows["q"] = (("read", "a"),)
        rows["z"] = ()
        self.assertEqual((len(run), run.processes, run.unread), (1, ("p", "q"), ("a",)))

    def test_what_is_returned_gives_no_access(self):
        run = Run({"a": A}, {"p": (("send", "a"),)})
        run.letters.clear()
        run.rows["q"] = (("read", "a"),)
        run.rows.clear()
        self.assertEqual(run, Run({"a": A}, {"p": (("send", "a"),)}))
        self.assertEqual(run.rows, {"p": (("send", "a"),), "q": ()})
        for name in ("letters", "rows", "processes", "order", "unread", "is_whole"):
            self.assertRaises(AttributeError, setattr, run, name, ())


class OrderTests(Case):
    def test_order(self):
        run = run_of("p -b +a, q +b -a, r +c")
        self.same(run.order, (("send", "b"), ("read", "b"), ("send", "a"), ("read", "a"), ("send", "c")))
        self.same(LAST.order, (("send", "a"), ("send", "b"), ("read", "b"), ("send", "c"), ("read", "c"), ("read", "a")))
        self.same(list(run), list(run.order))

    def test_order_takes_the_least_process_that_can(self):
        chance = random.Random(3)
        for _ in range(100):
            run = some_run(chance, chance.randint(0, 6), "pqrst"[:chance.randint(2, 5)])
            rows, sent, told = {process: list(row) for process, row in run.rows.items()}, set(), []
            while any(rows.values()):
                ready = [p for p in sorted(rows) if rows[p] and (rows[p][0][0] == "send" or rows[p][0][1] in sent)]
                told.append(rows[ready[0]].pop(0))
                if told[-1][0] == "send":
                    sent.add(told[-1][1])
            self.same(run.order, tuple(told))

    def test_ahead(self):
        chance = random.Random(4)
        for _ in range(60):
            run = some_run(chance, chance.randint(1, 5))
            pairs = naive_ahead(run)
            for one, other in itertools.product(run, repeat=2):
                self.assertIs(run(one, other), (one, other) in pairs)
            some = chance.sample(run.order, min(2, len(run.order)))
            wanted = tuple(e for e in run if e in some or any((e, f) in pairs for f in some))
            self.same(run.past(*some), wanted)
            self.same(run.past(*some, *some[::-1]), wanted)
            part = run.until(*some)
            self.assertEqual(set(part.order), set(wanted))
            self.same(part.processes, run.processes)
            self.same(part.letters, {name: run.letters[name] for name in run.letters if ("send", name) in wanted})
            for process, row in run.rows.items():
                self.same(part.rows[process], row[:len(part.rows[process])])

    def test_past_and_until(self):
        self.same(LAST.past(), ())
        self.same(LAST.past(("send", "b"), ("send", "a")), (("send", "a"), ("send", "b")))
        self.same(LAST.past(("read", "b")), (("send", "a"), ("send", "b"), ("read", "b")))
        self.assertEqual(LAST.until(), Run({}, {"p": (), "q": (), "r": ()}))
        self.assertEqual(LAST.until(*LAST), LAST)
        self.same(LAST.until(("read", "b")).rows, {"p": (("send", "a"), ("send", "b")), "q": (), "r": (("read", "b"),)})

    def test_place(self):
        for process, row in LAST.rows.items():
            for at, event in enumerate(row):
                self.same(LAST.place(event), (process, at))

    def test_contains(self):
        for value in VALUES:
            self.assertIs(value in OPEN, isinstance(value, tuple) and value == ("send", "a"), value)
        self.assertIs(("read", "a") in OPEN, False)
        self.assertIs(("read", "b") in OPEN, True)

    def test_unknown_events(self):
        good = ("send", "b")
        for value in VALUES:
            if value in OPEN:
                continue
            self.fails_with(UnknownName, value, OPEN, value, good)
            self.fails_with(UnknownName, value, OPEN, good, value)
            self.fails_with(UnknownName, value, OPEN.place, value)
            self.fails_with(UnknownName, value, OPEN.past, good, value, "x")
            self.fails_with(UnknownName, value, OPEN.until, value, None)
        self.fails_with(UnknownName, ("read", "a"), OPEN, ("read", "a"), ("read", "d"))
        self.fails_with(UnknownName, ("read", "d"), OPEN.past, good, ("read", "d"), ("read", "a"))


class PartTests(Case):
    def test_only_and_without(self):
        self.same(LAST.only("c", "a", "c").rows, {"p": (("send", "a"),), "q": (("read", "c"), ("read", "a")),
                                                  "r": (("send", "c"),)})
        self.assertEqual(LAST.without("b"), LAST.only("a", "c"))
        self.assertEqual(LAST.without("b", "b"), LAST.only("a", "c"))
        self.assertEqual(LAST.only(), Run({}, {"p": (), "q": (), "r": ()}))
        self.assertEqual(LAST.without(), LAST)
        self.assertEqual(OPEN.without("b", "c"), Run({"a": ("k", "p", "lost"), "d": ("k", "q", "lost")},
                                                     {"p": (("send", "a"),), "q": (("send", "d"),)}))

    def test_unknown_letters(self):
        for value in VALUES:
            if isinstance(value, str) and value == "a":
                continue
            self.fails_with(UnknownName, value, LAST.only, value)
            self.fails_with(UnknownName, value, LAST.without, "a", value, "zz")


class RenamingTests(Case):
    def test_processes(self):
        run = LAST.with_processes(p="q", q="p")
        self.same(run.rows, {"p": (("read", "c"), ("read", "a")), "q": (("send", "a"), ("send", "b")),
                             "r": (("read", "b"), ("send", "c"))})
        self.same(run.letters, {"a": ("order", "q", "p"), "b": ("other", "q", "r"), "c": ("report", "r", "p")})
        self.assertEqual(LAST.with_processes(p="z").processes, ("q", "r", "z"))
        self.assertEqual(LAST.with_processes_by({"p": "q", "q": "p"}), run)
        self.assertEqual(run.with_processes(p="q", q="p"), LAST)
        self.assertEqual(LAST.with_processes(), LAST)
        self.assertEqual(LAST.with_processes(p="p"), LAST)
        self.assertEqual(Run({}, {"self": (), "names": ()}).with_processes_by({"self": "a", "names": "b"}).processes,
                         ("a", "b"))
        self.assertEqual(Run({}, {"names": ()}).with_processes(names="b").processes, ("b",))

    def test_kinds(self):
        self.assertEqual([letter[0] for letter in LAST.with_kinds(order="other", other="order").letters.values()],
                         ["other", "order", "report"])
        same = LAST.with_kinds(order="k", report="k", other="k")
        self.assertEqual({letter[0] for letter in same.letters.values()}, {"k"})
        self.assertEqual(LAST.with_kinds(order="report").letters["a"], ("report", "p", "q"))
        self.assertEqual(LAST.with_kinds_by({"order": "k"}), LAST.with_kinds(order="k"))
        self.assertEqual(LAST.with_kinds_by({}), LAST)

    def test_letters(self):
        run = LAST.with_letters(a="b", b="c", c="a")
        self.same(run.letters, {"a": ("report", "r", "q"), "b": ("order", "p", "q"), "c": ("other", "p", "r")})
        self.same(run.rows["q"], (("read", "a"), ("read", "b")))
        self.assertEqual(LAST.with_letters_by({"a": "b", "b": "c", "c": "a"}), run)
        self.assertEqual(OPEN.with_letters(a="z").unread, ("d", "z"))
        self.assertEqual(LAST.with_letters_by({"a": "self"}).with_letters_by({"self": "a"}), LAST)

    def test_two_become_equal(self):
        self.fails(InvalidRun, LAST.with_processes, p="q")
        self.fails(InvalidRun, LAST.with_processes, p="z", q="z")
        idle = Run(LAST.letters, {**LAST.rows, "a": (), "z": ()})
        for names in ({"a": "p"}, {"z": "p"}, {"a": "z"}, {"a": "q", "z": "c"}):
            self.fails(InvalidRun, idle.with_processes_by, names)
        self.fails(InvalidRun, LAST.with_letters, a="b")
        self.fails(InvalidRun, LAST.with_letters_by, {"a": "x", "c": "x"})

    def test_errors(self):
        for known, of_names, by_dict in (
                ("p", LAST.with_processes, LAST.with_processes_by), ("order", LAST.with_kinds, LAST.with_kinds_by),
                ("a", LAST.with_letters, LAST.with_letters_by)):
            for value in others(dict):
                self.fails(InvalidOperation, by_dict, value)
            for key in (1, None, True, ("p",), HUGE):
                self.fails(InvalidOperation, by_dict, {known: "x", key: "y"})
                self.fails(InvalidOperation, by_dict, {"zz": 5, key: None})
            self.fails_with(UnknownName, "u", of_names, zz="x", u="y", v="z")
            self.fails_with(UnknownName, "", by_dict, {"zz": 5, "": "A", known: None})
            self.fails_with(UnknownName, "A b", by_dict, {"zz": "x", "A b": "y"})
            for value in VALUES:
                if not isinstance(value, str) or value not in ("a", "abcdefgh", "send", "all"):
                    self.fails(InvalidName, by_dict, {known: value})
                    self.fails(InvalidName, of_names, **{known: value})
        self.fails_with(UnknownName, "k", LAST.with_kinds, k="x")
        self.fails(InvalidName, LAST.with_processes, p="q", q="Q")


class MirroredTests(Case):
    def test_mirrored(self):
        run = LAST.mirrored()
        self.same(run.letters, {"a": ("order", "q", "p"), "b": ("other", "r", "p"), "c": ("report", "q", "r")})
        self.same(run.rows, {"p": (("read", "b"), ("read", "a")), "q": (("send", "a"), ("send", "c")),
                             "r": (("read", "c"), ("send", "b"))})
        self.assertEqual(run.mirrored(), LAST)
        self.assertNotEqual(run, LAST)

    def test_order_is_turned(self):
        chance = random.Random(8)
        for _ in range(40):
            run = some_run(chance, 4, read=1)
            turned = {"send": "read", "read": "send"}
            pairs = {((turned[f[0]], f[1]), (turned[e[0]], e[1])) for e, f in naive_ahead(run)}
            self.assertEqual(naive_ahead(run.mirrored()), pairs)

    def test_not_whole(self):
        self.fails(InvalidOperation, OPEN.mirrored)


class JoinedTests(Case):
    def test_joined(self):
        other = run_of("p -x, z +x +y", y="order")
        run = LAST + other
        self.same(run.rows, {"lost": (), "p": (("send", "a"), ("send", "b"), ("read", "x")), "q": LAST.rows["q"],
                             "r": LAST.rows["r"], "z": (("send", "x"), ("send", "y"))})
        self.same(run.letters, {**LAST.letters, **other.letters})
        self.assertEqual((other + LAST).rows["p"], (("read", "x"), ("send", "a"), ("send", "b")))
        self.assertEqual(LAST + Run({}, {}), LAST)

    def test_errors(self):
        for value in others(Run):
            self.fails(InvalidOperation, lambda: LAST + value)
        self.fails(InvalidOperation, lambda: LAST + LAST)
        self.fails(InvalidOperation, lambda: LAST + run_of("p +z +c"))
        half = Run(*many_letters(40))
        names = dict(zip(new_names(40), new_names(40, without=new_names(40))))
        self.fails_with(TooMany, 60, lambda: half + half.with_letters_by(names))
        wide = Run({}, {name: () for name in new_names(21)})
        far = Run({}, {name: () for name in new_names(20, without=new_names(21))})
        self.fails_with(TooMany, 40, lambda: wide + far)
        self.fails_with(TooMany, 60, lambda: (half + wide) + (half.with_letters_by(names) + far))


class EqualTests(Case):
    def test_equal(self):
        self.assertEqual(LAST, Run(dict(reversed(LAST.letters.items())), dict(reversed(LAST.rows.items()))))
        self.assertFalse(LAST != Run(LAST.letters, LAST.rows))
        self.assertNotEqual(LAST, LAST.with_kinds(order="k"))
        self.assertNotEqual(LAST, LAST.with_processes(p="z"))
        self.assertNotEqual(LAST, LAST.with_letters(a="z"))
        self.assertNotEqual(LAST, Run(LAST.letters, {**LAST.rows, "z": ()}))
        self.assertNotEqual(LAST, Run(LAST.letters, {**LAST.rows, "q": LAST.rows["q"][::-1]}))
        for value in VALUES:
            self.assertIs(OPEN == value, False)
            self.assertIs(OPEN != value, True)

    def test_text_and_length(self):
        self.same(str(OPEN), "run of 4 letters, 3 processes")
        self.same((len(OPEN), bool(OPEN)), (4, True))
        self.same(str(run_of("p +a, q -a")), "run of 1 letters, 2 processes")

    def test_errors_change_nothing(self):
        run = Run(LAST.letters, LAST.rows)
        for action in (lambda: run.with_letters(a="b"), lambda: run + run, lambda: run.only("a", "x"),
                       lambda: run("x", "y"), lambda: run.with_processes(p="A"), lambda: run.past(5)):
            self.assertRaises(Exception, action)
        self.assertEqual(run, LAST)
        self.assertEqual(run.order, LAST.order)


class EventOrderTests(Case):
    def test_naive(self):
        chance = random.Random(6)
        for many in (0, 1, 1, 2, 2, 2, 2, 3, 3, 3):
            run = some_run(chance, many, read=0.7)
            pairs = naive_ahead(run)
            wanted = [row for row in itertools.permutations(sorted(run.order))
                      if all(row.index(e) < row.index(f) for e, f in pairs)]
            self.same(list(event_orders(run)), wanted)
            for row in itertools.permutations(run.order):
                self.assertIs(is_event_order(run, row), row in wanted)

    def test_nothing(self):
        self.assertEqual(list(event_orders(Run({}, {"p": ()}))), [()])
        self.assertIs(is_event_order(Run({}, {}), ()), True)

    def test_four_letters(self):
        run = run_of("p +a +b +c +d, q -d -c -b -a")
        found = list(event_orders(run))
        self.assertEqual(found, sorted(set(found)))
        self.assertEqual(len(found), 1)
        loose = run_of("p +a, q -a, r +b, s -b, t +c, u -c, v +d, w -d")
        found = list(event_orders(loose))
        self.assertEqual(found, sorted(set(found)))
        self.assertEqual(len(found), 2520)

    def test_in_part_and_side_by_side(self):
        run = run_of("p +a, q -a, r +b, s -b")
        one, other = event_orders(run), event_orders(run)
        first = next(one)
        self.same(first, (("send", "a"), ("read", "a"), ("send", "b"), ("read", "b")))
        second = next(one)
        self.same([next(other), next(other)], [first, second])
        self.assertLess(first, second)

    def test_too_many(self):
        run = some_run(random.Random(1), 5)
        orders = event_orders(run)
        self.fails_with(TooMany, 4, next, orders)
        self.assertIs(is_event_order(run, run.order), True)
        self.assertIs(is_event_order(run, run.order[:-1]), False)
        big = Run(*many_letters(60))
        self.assertIs(is_event_order(big, big.order), True)
        self.assertIs(is_event_order(big, big.order[::-1]), False)

    def test_other_values(self):
        for value in (*VALUES, list(LAST.order), LAST.order[1:], LAST.order + LAST.order[:1], LAST.order[:-1] + ("x",),
                      LAST.order[:-1] + ([],), LAST.order[:-1] + LAST.order[:1]):
            self.assertIs(is_event_order(LAST, value), False, value)

    def test_errors(self):
        for value in others(Run):
            self.fails(InvalidRun, is_event_order, value, ())
            orders = event_orders(value)
            self.fails(InvalidRun, next, orders)


if __name__ == "__main__":
    unittest.main()
