"""[0.14], [12.1] to [12.4]: transports and plays."""

import random
import unittest

from letterrules.base.letters import new_names
from letterrules.errors import (
    Held, InvalidMarking, InvalidName, InvalidNumber, InvalidOperation, InvalidTransport, NothingToUndo, TooMany,
    UnknownName,
)
from letterrules.marks.known import Marking
from letterrules.plays.plays import Play, Transport
from letterrules.runs.runs import Run
from support import HUGE, VALUES, Case, others

EXAMPLES = """
>>> play = Play(Transport(Marking(), may_read=lambda view, letter: letter == "a"), "p", "q")
>>> [play.do_all((("wish", "b", "order", "p", "q"), ("wish", "a", "order", "p", "q"), ("send", "b"), ("send", "a"))), play.come("b"), play.pending]
[4, 5, ('b',)]
>>> [play.may(("read", "b")), play.come("a"), list(play.next_steps()), play.read("a"), play.is_still(), play.run().rows["q"]]
[False, 6, [('read', 'a')], 7, True, (('read', 'a'),)]
"""

FREE = Transport(Marking())
MIXED = Marking(k="numbers", l="notes")
NAMES = new_names(70)
WISH_A, WISH_B = ("wish", "a", "k", "p", "q"), ("wish", "b", "l", "q", "p")


class Failure(Exception):
    """An error of a transport's own."""


def fail(*parts):
    raise Failure(parts)


def deep(many):
    """A tuple that is so many deep."""
    value = ()
    for _ in range(many - 1):
        value = (value, 1)
    return value


def marked():
    """A transport whose marks tell what its functions were given."""
    return Transport(MIXED, number=lambda *parts: ("number", *parts), note=lambda *parts: ("note", len(parts[0]), *parts[1:]))


def walked(seed, many, transport=FREE, processes="pqr"):
    """A play of some steps, at random."""
    chance = random.Random(seed)
    play = Play(transport, *processes)
    for _ in range(many):
        play.do(chance.choice(all_steps(play, chance)))
    return play


def all_steps(play, chance):
    """The steps that are allowed, and a wish."""
    left = [name for name in NAMES[:20] if name not in play.letters]
    wish = [("wish", chance.choice(left), chance.choice("klm"), *chance.sample(play.processes, 2))] if left else []
    return [*play.next_steps(), *wish]


class Model:
    """A play by the words of the document, where all steps are allowed."""

    def __init__(self, steps, processes):
        self.wished, self.sent, self.came, self.was_read, self.marks = {}, [], [], [], {}
        self.views = {process: (("at", process),) for process in processes}
        for step in steps:
            self.do(*step)

    def do(self, word, letter, *parts):
        if word == "wish":
            self.wished[letter] = parts
            self.put(parts[1], (word, letter, parts[0], parts[2]))
            return
        kind, sender, reader = self.wished[letter]
        if word == "send":
            if kind == "k":
                before = [one for one in self.sent if self.wished[one][1] == sender]
                told = tuple((one, self.wished[one][0], self.wished[one][2]) for one in before)
                self.marks[letter] = ("number", told, letter, kind, reader)
            else:
                self.marks[letter] = ("note", len(self.views[sender]), letter, kind, reader) if kind == "l" else None
            self.sent.append(letter)
            self.put(sender, (word, letter))
        elif word == "come":
            self.came.append(letter)
            self.put(reader, (word, letter, kind, sender, self.marks[letter]))
        else:
            self.was_read.append(letter)
            self.put(reader, (word, letter))

    def put(self, process, item):
        self.views[process] = (*self.views[process], item)

    def under_way(self):
        return tuple(sorted(set(self.sent) - set(self.came)))

    def pending(self):
        return tuple(sorted(set(self.wished) - set(self.sent) | set(self.came) - set(self.was_read)))

    def next_steps(self):
        coming = [("come", letter) for letter in self.under_way()]
        reading = [("read", letter) for letter in set(self.came) - set(self.was_read)]
        return sorted([*coming, *reading, *[("send", letter) for letter in set(self.wished) - set(self.sent)]])

    def run(self):
        letters = {letter: self.wished[letter] for letter in self.sent}
        rows = {process: tuple(item for item in view if item[0] in ("send", "read")) for process, view in self.views.items()}
        return Run(letters, rows)


class ExampleTests(Case):
    def test_examples(self):
        self.examples(EXAMPLES, dict(globals()))


class TransportTests(Case):
    def test_without_functions(self):
        for marking in (Marking(), MIXED, Marking.even("notes")):
            one = Transport(marking)
            self.assertIs(one.marking, marking)
            self.same((one.lets_send((("at", "p"),), "a"), one.lets_read((), "a")), (True, True))
            for kind in "klm":
                self.assertIsNone(one.mark_of((("at", "p"),), "a", kind, "q"))
        self.same(Transport(Marking(), may_send=None, may_read=None, number=None, note=None).lets_send((), "a"), True)

    def test_functions(self):
        one = Transport(MIXED, may_send=lambda view, letter: letter == "a", may_read=lambda view, letter: len(view) > 1,
                        number=lambda *parts: ("number", *parts), note=lambda *parts: ("note", *parts))
        view = (("at", "p"), ("wish", "a", "k", "q"), ("wish", "b", "l", "r"), ("send", "b"), ("come", "c", "m", "q", None),
                ("wish", "d", "m", "q"), ("send", "a"), ("read", "c"))
        self.same([one.lets_send(view, "a"), one.lets_send(view, "b")], [True, False])
        self.same([one.lets_read(view, "a"), one.lets_read(view[:1], "a")], [True, False])
        self.same(one.mark_of(view, "d", "k", "q"), ("number", (("b", "l", "r"), ("a", "k", "q")), "d", "k", "q"))
        self.same(one.mark_of(view, "d", "l", "q"), ("note", view, "d", "l", "q"))
        self.same(one.mark_of(view, "d", "m", "q"), None)
        self.same(one.mark_of((("at", "p"),), "d", "k", "q"), ("number", (), "d", "k", "q"))

    def test_functions_are_called_where_they_must_be_only(self):
        one = Transport(Marking(), may_read=fail, number=fail, note=fail)
        self.same((one.lets_send((), "a"), one.mark_of((), "a", "k", "q")), (True, None))
        other = Transport(Marking.even("numbers"), may_send=fail, note=fail)
        self.same((other.lets_read((), "a"), other.mark_of((), "a", "k", "q")), (True, None))
        self.same(Transport(Marking.even("notes"), number=fail).mark_of((), "a", "k", "q"), None)

    def test_results_that_are_no_booleans(self):
        for value in VALUES:
            one = Transport(Marking(), may_send=lambda view, letter: value, may_read=lambda view, letter: value)
            for ask in (one.lets_send, one.lets_read):
                if value is True or value is False:
                    self.assertIs(ask((), "a"), value)
                else:
                    self.fails(InvalidOperation, ask, (), "a")

    def test_marks_that_are_no_plain_values(self):
        plain = (None, True, False, 0, -HUGE, "", "x" * 10000, (), (1, ("a", (None,))), deep(10), deep(1), deep(2))
        others_ = ([], {}, deep(11), deep(12), ([],), (1, ({},)), Marking(), (Marking(),), b"a", 1.5, {1}, fail, (fail,))
        for word, name in (("numbers", "number"), ("notes", "note")):
            for value in plain:
                one = Transport(Marking.even(word), **{name: lambda *parts: value})
                self.same(one.mark_of((), "a", "k", "q"), value)
            for value in others_:
                one = Transport(Marking.even(word), **{name: lambda *parts: value})
                self.fails(InvalidOperation, one.mark_of, (), "a", "k", "q")
                play = Play(one, "p", "q")
                play.do(WISH_A)
                self.fails(InvalidOperation, play.send, "a")
                self.same(play.steps, (WISH_A,))

    def test_errors_of_the_functions_go_on(self):
        one = Transport(Marking(k="numbers", l="notes"), may_send=fail, may_read=fail, number=fail, note=fail)
        for ask in (one.lets_send, one.lets_read):
            self.fails(Failure, ask, (), "a")
        for kind in "kl":
            self.fails(Failure, one.mark_of, (), "a", kind, "q")

    def test_errors(self):
        for value in others(Marking):
            self.fails(InvalidMarking, Transport, value)
            self.fails(InvalidMarking, Transport, value, may_send=5)
        for value in (True, False, 0, 7, HUGE, "", "a", (), (fail,), [], [fail], {}, {"a": fail}):
            for name in ("may_send", "may_read", "number", "note"):
                self.fails(InvalidOperation, Transport, Marking(), **{name: value})
        self.fails(AttributeError, setattr, FREE, "marking", Marking())


class StepTests(Case):
    def test_walks(self):
        for seed in range(30):
            play = walked(seed, 25 + seed, marked(), ("pq", "pqr", "pqrst")[seed % 3])
            model = Model(play.steps, play.processes)
            self.same(play.letters, dict(sorted(model.wished.items())))
            self.same((play.under_way, play.pending), (model.under_way(), model.pending()))
            self.same(list(play.next_steps()), model.next_steps())
            self.assertEqual(play.run(), model.run())
            self.same(play.run().processes, play.processes)
            for process in play.processes:
                self.same(play.view(process), model.views[process])
            for letter in play.letters:
                if letter in model.marks:
                    self.same(play.mark(letter), model.marks[letter])
                else:
                    self.fails_with(UnknownName, letter, play.mark, letter)
            quiet = not model.under_way() and not model.pending()
            self.same((play.is_quiet(), play.is_still()), (quiet, False))
            self.same((list(play), len(play)), (list(play.steps), 25 + seed))

    def test_possible_steps(self):
        play = Play(FREE, "p", "q", "r")
        play.do_all((WISH_A, WISH_B, ("wish", "c", "k", "p", "r"), ("wish", "d", "k", "p", "r"), ("send", "b"), ("send", "c"),
                     ("send", "d"), ("come", "c"), ("come", "d"), ("read", "d")))
        stages = {"a": "send", "b": "come", "c": "read", "d": None, "e": None}
        for letter, wanted in stages.items():
            for word in ("send", "come", "read"):
                self.assertIs(play.may((word, letter)), word == wanted)
                if word != wanted:
                    self.fails(InvalidOperation, play.do, (word, letter))
                    self.fails(InvalidOperation, {"send": play.send, "come": play.come, "read": play.read}[word], letter)
        self.same(len(play), 10)

    def test_wishes(self):
        play = Play(FREE, "p", "q")
        play.do(WISH_A)
        for wish in (("b", "k", "p", "q"), ("b", "other", "q", "p"), ("p", "p", "p", "q"), ("k", "wish", "q", "p")):
            self.assertIs(play.may(("wish", *wish)), True)
        for wish in (("a", "k", "p", "q"), ("a", "l", "q", "p"), ("b", "k", "p", "p"), ("b", "k", "p", "r"), ("b", "k", "r", "q"),
                     ("b", "K", "p", "q"), ("B", "k", "p", "q"), (5, "k", "p", "q"), ("b", None, "p", "q"), ("b", "k", ["p"], "q"),
                     ("b", "k", "p", ("q",)), ("b", "k", "p"), ("b", "k", "p", "q", "r"), (["b"], "k", "p", "q"), ()):
            self.assertIs(play.may(("wish", *wish)), False)
            self.fails(InvalidOperation, play.do, ("wish", *wish))
            if len(wish) == 4:
                self.fails(InvalidOperation, play.wish, *wish)
        self.same(play.wish("b", "k", "q", "p"), 2)
        self.same(play.letters, {"a": ("k", "p", "q"), "b": ("k", "q", "p")})

    def test_no_steps(self):
        play = Play(FREE, "p", "q")
        play.do(WISH_A)
        for value in (*VALUES, ["send", "a"], ("send", ["a"]), ("send", "a", "a"), (["send"], "a"), ("sent", "a"), ("send",),
                      ({}, "a"), (None, "a"), (FREE, "a"), ("come", "a"), ("at", "p"), ("wish", "a")):
            if value == ("send", "a"):
                self.assertIs(play.may(value), True)
            else:
                self.assertIs(play.may(value), False)
                self.fails(InvalidOperation, play.do, value)
                self.fails(InvalidOperation, play.do_all, (value, ("send", "a")))
        self.same(play.steps, (WISH_A,))

    def test_sixty_wishes(self):
        play = Play(FREE, "p", "q")
        play.do_all(tuple(("wish", name, "k", "p", "q") for name in NAMES[:59]))
        self.same(play.wish(NAMES[59], "k", "p", "q"), 60)
        self.assertIs(play.may(("wish", NAMES[60], "k", "p", "q")), False)
        self.fails(InvalidOperation, play.wish, NAMES[60], "k", "p", "q")
        for name in NAMES[:60]:
            play.do_all((("send", name), ("come", name), ("read", name)))
        self.fails(InvalidOperation, play.wish, NAMES[60], "k", "p", "q")
        self.same((len(play.run()), play.is_quiet(), len(play)), (60, True, 240))
        self.same(play.back(many=240), 0)

    def test_do_all_does_all_or_none(self):
        play = Play(marked(), "p", "q")
        self.same((play.do_all(()), play.do_all((WISH_A, ("send", "a")))), (0, 2))
        before = play.twin()
        for steps in ((("come", "a"), ("come", "a")), (("come", "a"), WISH_B, ("send", "b"), WISH_A), (("come", "a"), 5), (5,),
                      (("come", "a"), ("read", "a"), ("read", "b")), ((),)):
            self.fails(InvalidOperation, play.do_all, steps)
            self.assertEqual(play, before)
        for value in others(tuple):
            self.fails(InvalidOperation, play.do_all, value)
        self.assertEqual(play, before)
        self.same(play.view("p"), before.view("p"))

    def test_held_steps(self):
        transport = Transport(Marking(), may_send=lambda view, letter: letter != "b", may_read=lambda view, letter: len(view) > 2)
        play = Play(transport, "p", "q")
        play.do_all((WISH_A, WISH_B, ("send", "a")))
        self.assertIs(play.may(("send", "b")), False)
        self.fails_with(Held, ("send", "b"), play.do, ("send", "b"))
        self.fails_with(Held, ("send", "b"), play.send, "b")
        self.fails_with(Held, ("send", "b"), play.do_all, (("come", "a"), ("send", "b")))
        self.same(len(play), 3)
        play.come("a")
        self.assertIs(play.may(("read", "a")), True)
        play = Play(transport, "p", "q")
        play.do_all((WISH_A, ("send", "a"), ("come", "a")))
        self.same((play.is_still(), play.may(("read", "a"))), (True, False))
        self.fails_with(Held, ("read", "a"), play.read, "a")
        self.same(play.do(WISH_B), 4)
        self.same((play.is_still(), play.may(("read", "a")), play.may(("send", "b"))), (False, True, False))

    def test_what_the_functions_are_given(self):
        told = []

        def keep(word, result):
            return lambda *parts: told.append((word, *parts)) or result

        play = Play(Transport(MIXED, may_send=keep("send", True), may_read=keep("read", True), number=keep("number", 1),
                              note=keep("note", (2,))), "p", "q")
        first, second = ("wish", "b", "k", "p", "q"), ("wish", "c", "l", "p", "q")
        play.do_all((first, second, ("send", "b"), ("send", "c"), ("come", "c"), ("come", "b"), ("read", "b")))
        start = (("at", "p"), ("wish", "b", "k", "q"), ("wish", "c", "l", "q"))
        behind = (*start, ("send", "b"))
        here = (("at", "q"), ("come", "c", "l", "p", (2,)), ("come", "b", "k", "p", 1))
        self.same(told, [("send", start, "b"), ("number", (), "b", "k", "q"), ("send", behind, "c"), ("note", behind, "c", "l", "q"),
                         ("read", here, "b")])
        self.same((play.view("p"), play.view("q")), ((*behind, ("send", "c")), (*here, ("read", "b"))))
        self.same((play.mark("b"), play.mark("c")), (1, (2,)))

    def test_errors_of_the_transport(self):
        for error, transport in ((Failure, Transport(Marking(), may_send=fail, may_read=fail)),
                                 (InvalidOperation, Transport(Marking(), may_send=lambda view, letter: 1))):
            play = Play(transport, "p", "q")
            self.same((play.is_quiet(), play.is_still(), list(play.next_steps())), (True, False, []))
            play.do(WISH_A)
            self.fails(error, play.may, ("send", "a"))
            self.assertIs(play.may(("read", "a")), False)
            self.fails(error, play.send, "a")
            self.fails(error, play.is_still)
            self.fails(error, play.do_all, (WISH_B, ("send", "b")))
            steps = play.next_steps()
            self.fails(error, next, steps)
            self.same((play.steps, play.is_quiet()), ((WISH_A,), False))
        play = Play(Transport(Marking(), may_send=lambda view, letter: letter == "a" or fail()), "p", "q")
        play.do_all((WISH_A, WISH_B, ("send", "a")))
        self.same((play.is_still(), play.is_quiet()), (False, False))
        play = Play(Transport(Marking.even("notes"), note=fail), "p", "q")
        play.do(WISH_A)
        self.assertIs(play.may(("send", "a")), True)
        self.fails(Failure, play.send, "a")
        self.same(len(play), 1)

    def test_still_and_quiet(self):
        play = Play(Transport(Marking(), may_send=lambda view, letter: len(view) > 2), "p", "q")
        self.same((play.is_still(), play.is_quiet()), (False, True))
        play.do(WISH_A)
        self.same((play.is_still(), play.is_quiet()), (True, False))
        play.wish("b", "k", "p", "q")
        self.same((play.is_still(), play.is_quiet()), (False, False))
        play.send("a")
        self.same((play.is_still(), play.is_quiet(), play.under_way), (False, False, ("a",)))
        held = Play(Transport(Marking(), may_read=lambda view, letter: False), "p", "q")
        held.do_all((WISH_A, ("send", "a")))
        self.same((held.is_still(), held.is_quiet()), (False, False))
        held.come("a")
        self.same((held.is_still(), held.is_quiet(), held.pending), (True, False, ("a",)))

    def test_next_steps_in_part_and_twice(self):
        play = Play(FREE, "p", "q")
        play.do_all((WISH_A, WISH_B, ("wish", "c", "k", "p", "q"), ("send", "a"), ("send", "c"), ("come", "c")))
        wanted = [("come", "a"), ("read", "c"), ("send", "b")]
        one, other = play.next_steps(), play.next_steps()
        self.same([next(one), next(other)], [wanted[0]] * 2)
        self.same([*other, "end", *one], [*wanted[1:], "end", *wanted[1:]])
        steps = play.next_steps()
        next(steps)
        play.do_all((("read", "c"), ("send", "b")))
        self.same(list(play.next_steps()), [("come", "a"), ("come", "b")])


class PlayTests(Case):
    def test_plain(self):
        play = Play(FREE, "q", "p")
        self.assertIs(play.transport, FREE)
        self.same((play.processes, play.steps, play.letters, play.under_way, play.pending), (("p", "q"), (), {}, (), ()))
        self.same((str(play), len(play), bool(play), list(play)), ("play of 2 processes, 0 steps", 0, False, []))
        self.same((play.view("p"), play.run().processes), ((("at", "p"),), ("p", "q")))
        play.do(WISH_A)
        self.same((str(play), bool(play)), ("play of 2 processes, 1 steps", True))
        self.same(str(Play(FREE)), "play of 0 processes, 0 steps")
        self.assertEqual(Play.of(FREE, ("q", "p")), Play(FREE, "p", "q"))
        self.same(Play.of(FREE, ()).processes, ())

    def test_errors(self):
        for value in others(Transport):
            self.fails(InvalidTransport, Play, value, 5)
            self.fails(InvalidTransport, Play.of, value, 5)
        for value in others(tuple):
            self.fails(InvalidName, Play.of, FREE, value)
        for value in (*others(str), "", "A", "a b", "abcdefghi"):
            self.fails(InvalidName, Play, FREE, value)
            self.fails(InvalidName, Play, FREE, "p", "p", value)
            self.fails(InvalidName, Play.of, FREE, ("p", value))
        self.fails(InvalidOperation, Play, FREE, "p", "q", "p")
        self.fails(InvalidOperation, Play.of, FREE, ("p", "q", "p"))
        self.same(len(Play(FREE, *NAMES[:40]).processes), 40)
        self.fails_with(TooMany, 40, Play, FREE, *NAMES[:41])
        self.fails_with(TooMany, 40, Play.of, FREE, NAMES[:41])
        self.fails(InvalidOperation, Play, FREE, *NAMES[:41], "a")
        play = Play(FREE, "p", "q")
        play.do_all((WISH_A, WISH_B, ("send", "a")))
        for value in (*VALUES, "r", ["p"], "b"):
            self.fails_with(UnknownName, value, play.view, value)
            if value != "a":
                self.fails_with(UnknownName, value, play.mark, value)
        for name in ("transport", "processes", "steps", "letters", "under_way", "pending"):
            self.fails(AttributeError, setattr, play, name, 5)

    def test_back(self):
        for seed in range(6):
            play = walked(seed, 30, marked())
            steps = play.steps
            for many in (0, 1, 3, 7):
                before = len(play)
                self.same(play.back(many=many), before - many)
                again = Play(marked(), *play.processes)
                again.do_all(steps[:before - many])
                self.assertEqual(play, again)
                self.same([play.view(process) for process in "pqr"], [again.view(process) for process in "pqr"])
                self.same((play.letters, play.under_way, play.pending), (again.letters, again.under_way, again.pending))
            self.same(play.back(), 18)
            for value in (*others(int), -1, -HUGE, True, False):
                self.fails_with(InvalidNumber, value, play.back, many=value)
            for value in (19, HUGE):
                self.fails_with(NothingToUndo, value, play.back, many=value)
            self.same((len(play), play.back(many=18), play.back(many=0)), (18, 0, 0))
            self.fails_with(NothingToUndo, 1, play.back)
            play.do(WISH_A)
            self.same(play.steps, (WISH_A,))

    def test_trial(self):
        play = walked(7, 20)
        before = play.twin()
        with play.trial() as same:
            self.assertIs(same, play)
            play.back(many=3)
            play.wish("zz", "k", "p", "q")
            with play.trial():
                play.send("zz")
                inner = play.twin()
                with self.assertRaises(Failure):
                    with play.trial():
                        play.come("zz")
                        fail()
                self.assertEqual(play, inner)
            self.same(play.pending[-1], "zz")
            self.same(len(play), 18)
        self.assertEqual(play, before)
        self.same([play.view(process) for process in "pqr"], [before.view(process) for process in "pqr"])
        with self.assertRaises(InvalidOperation):
            with play.trial():
                play.wish("zz", "k", "p", "q")
                play.send("y")
        self.assertEqual(play, before)
        play.wish("zz", "k", "p", "q")
        self.same(play.back(), 20)

    def test_one_trial_again(self):
        play = Play(FREE, "p", "q")
        block = play.trial()
        play.do(WISH_A)
        for _ in range(2):
            with block:
                play.do(WISH_B)
            self.same(play.steps, (WISH_A,))

    def test_attempt(self):
        play = walked(8, 10)
        before = play.twin()
        self.same(play.attempt(lambda same: (same is play, same.wish("zz", "k", "p", "q"), len(same))), (True, 11, 11))
        self.assertEqual(play, before)
        self.fails(Failure, play.attempt, lambda same: (same.back(), fail()))
        self.assertEqual(play, before)
        self.same(play.attempt(lambda same: same.attempt(lambda again: again.back(many=4)) + len(same)), 16)

    def test_twin(self):
        play = walked(9, 15, marked())
        twin = play.twin()
        self.assertTrue(twin == play and twin is not play)
        self.assertIs(twin.transport, play.transport)
        twin.back(many=5)
        self.same((len(play), len(twin)), (15, 10))
        play.wish("zz", "k", "p", "q")
        self.same((len(play), len(twin), "zz" in twin.letters), (16, 10, False))

    def test_equal(self):
        play = Play(FREE, "p", "q")
        self.assertTrue(play == Play(marked(), "q", "p") and not play != Play(marked(), "q", "p"))
        self.assertTrue(play != Play(FREE, "p", "q", "r"))
        other = Play(Transport(MIXED, number=lambda *parts: 5), "p", "q")
        again = Play(Transport(MIXED, number=lambda *parts: 6), "p", "q")
        for one in (play, other, again):
            one.do(WISH_A)
        self.assertTrue(play == other == again)
        for one in (play, other, again):
            one.send("a")
        self.assertTrue(play != other and other != again and play != again)
        fifth = Play(Transport(MIXED, number=lambda *parts: len(parts) + 1), "p", "q")
        fifth.do_all((WISH_A, ("send", "a")))
        self.assertTrue(fifth == other)
        one, two = Play(FREE, "p", "q"), Play(FREE, "p", "q")
        one.do_all((WISH_A, WISH_B))
        two.do_all((WISH_B, WISH_A))
        self.assertTrue(one != two)
        for value in (*VALUES, FREE, one.steps):
            self.assertTrue(one != value and not one == value)

    def test_nothing_gives_access(self):
        play = Play(FREE, "p", "q")
        play.do(WISH_A)
        play.letters.clear()
        play.run().letters.clear()
        self.same((play.letters, play.steps), ({"a": ("k", "p", "q")}, (WISH_A,)))
        steps = [WISH_B]
        play.do_all(tuple(steps))
        steps.clear()
        self.same(play.steps, (WISH_A, WISH_B))


if __name__ == "__main__":
    unittest.main()
