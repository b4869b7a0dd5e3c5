"""[14.1] to [14.3]: talkers and talk plays."""

import random
import unittest

from letterrules.base.letters import new_names
from letterrules.errors import (
    InvalidName, InvalidNumber, InvalidOperation, InvalidTransport, NothingToUndo, TooMany, UnknownName,
)
from letterrules.plays.plays import Transport
from letterrules.marks.known import Marking
from letterrules.plays.talkers import Talker, TalkPlay
from letterrules.runs.runs import Run
from letterrules.runs.sets import is_in, is_letter_row
from support import HUGE, VALUES, Case, others

EXAMPLES = """
>>> talk = TalkPlay(Talker.asking(), "p", "q")
>>> [talk.do(("wish", "x", "order", "p", "q")), talk.do(("wish", "y", "report", "q", "p")), talk.settle(), talk.is_quiet(), len(talk)]
[1, 2, 14, True, 16]
>>> [talk.view("p")[:2], len(talk.run().rows["q"])]
[(('at', 'p'), ('wish', 'x', 'order', 'q')), 2]
"""

NAMES = new_names(70)
WISH_A, WISH_B = ("wish", "a", "k", "p", "q"), ("wish", "b", "l", "q", "p")
IDLE = Talker(lambda view: None)


class Failure(Exception):
    """An error of a talker's own."""


def fail(*parts):
    raise Failure(parts)


def telling(**acts):
    """The talker that tells each process one thing, or what a function of the view tells."""
    def step(view):
        act = acts.get(view[0][1])
        return act(view) if callable(act) else act
    return Talker(step)


def eager(view):
    """Send each wished letter, and read each one that has come."""
    done = {item[:2] for item in view}
    for item in view:
        if item[0] == "wish" and ("send", item[1]) not in done:
            return ("send", item[1])
        if item[0] == "come" and ("read", item[1]) not in done:
            return ("read", item[1])
    return None


def chatty(view):
    """As eager, and a word to each process that was named behind the last word."""
    if view[-1][0] == "wish":
        return ("tell", view[-1][3], "wish")
    if view[-1][0] == "told" and view[-1][2] == "wish":
        return ("tell", view[-1][1], "thanks")
    return eager(view)


EAGER, CHATTY = Talker(eager), Talker(chatty)


class Model:
    """A talk play by the words of [14.1] and [14.2]; it asks the talker for what a process tells."""

    def __init__(self, talker, processes):
        self.talker, self.moves = talker, []
        self.views = {process: [("at", process)] for process in processes}
        self.letters, self.words = {}, []
        self.sent, self.came, self.was_read, self.heard = set(), set(), set(), set()

    def act(self, process):
        view = tuple(self.views[process])
        return self.talker(view) if len(view) > 1 else None

    def next_moves(self):
        acts = [("act", process) for process in sorted(self.views) if self.act(process) is not None]
        coming = [("come", letter) for letter in sorted(self.sent - self.came)]
        return acts + coming + [("hear", at) for at in range(len(self.words)) if at not in self.heard]

    def do(self, move):
        word, name = move[0], move[1]
        if word == "wish":
            self.letters[name] = move[2:]
            self.views[move[3]].append((word, name, move[2], move[4]))
        elif word == "come":
            kind, sender, reader = self.letters[name]
            self.came.add(name)
            self.views[reader].append((word, name, kind, sender))
        elif word == "hear":
            sender, reader, text = self.words[name]
            self.heard.add(name)
            self.views[reader].append(("told", sender, text))
        else:
            told = self.act(name)
            self.views[name].append(told)
            if told[0] == "tell":
                self.words.append((name, told[1], told[2]))
            else:
                (self.sent if told[0] == "send" else self.was_read).add(told[1])
        self.moves.append(move)

    def pending(self):
        return tuple(sorted(set(self.letters) - self.sent | self.came - self.was_read))

    def run(self):
        rows = {process: tuple(item for item in view if item[0] in ("send", "read")) for process, view in self.views.items()}
        return Run({letter: parts for letter, parts in self.letters.items() if letter in self.sent}, rows)


def walked(chance, talker, many, processes="pqr", wishes=8):
    """A talk play and its model behind a random walk."""
    play, model = TalkPlay(talker, *processes), Model(talker, processes)
    names = list(NAMES[:wishes])
    for _ in range(many):
        moves = list(play.next_moves())
        if names and (not moves or chance.random() < 0.25):
            moves = [("wish", names.pop(), chance.choice("kl"), *chance.sample(processes, 2))]
        if not moves:
            break
        move = chance.choice(moves)
        model.do(move)
        play.do(move)
    return play, model


class ExampleTests(Case):
    def test_examples(self):
        self.examples(EXAMPLES, dict(globals()))


class TalkerTests(Case):
    def test_forms(self):
        for told in (None, ("tell", "q", "word"), ("tell", "p", "p"), ("send", "a"), ("read", "abcdefgh")):
            self.same(Talker(lambda view: told)(()), told)
            self.same(Talker(lambda view: told)((("at", "p"),)), told)
        self.same(Talker(lambda view: ("send", view[-1][1]))((("at", "p"), ("wish", "x", "k", "q"))), ("send", "x"))

    def test_what_has_no_form(self):
        wrong = [value for value in VALUES if value is not None and value != ("send", "a")]
        for told in (*wrong, (), ("tell", "q"), ("tell", "q", "word", "x"), ("tell", "Q", "word"), ("tell", "q", ""), ("tell", "q", 5),
                     ("tell", None, "word"), ("send",), ("send", "A"), ("send", "a", "b"), ("read", ["a"]), ("come", "a"), ["send", "a"],
                     ("wish", "a"), ("told", "q", "word"), (True, "a"), (("send",), "a"), ([], "a"), 1.5, b"send", fail):
            self.fails(InvalidOperation, Talker(lambda view: told), ())

    def test_errors(self):
        for value in (True, False, 0, 7, HUGE, None, "", "a", (), (fail,), [], [fail], {}, {"a": fail}):
            self.fails(InvalidTransport, Talker, value)
        self.fails(Failure, Talker(fail), ())
        self.fails(Failure, Talker(fail), (("at", "p"),))

    def test_asking_is_a_talker(self):
        self.assertIs(type(Talker.asking()), Talker)
        self.assertIsNone(Talker.asking()((("at", "p"),)))


class MoveTests(Case):
    def test_walks(self):
        for seed in range(60):
            chance = random.Random(seed)
            talker = (EAGER, CHATTY, Talker.asking())[seed % 3]
            play, model = walked(chance, talker, 10 + seed, ("pq", "pqr", "pqrst")[seed // 3 % 3])
            self.same(play.moves, tuple(model.moves))
            self.same(play.pending, model.pending())
            self.same(list(play.next_moves()), model.next_moves())
            self.assertEqual(play.run(), model.run())
            self.same(play.run().processes, play.processes)
            for process in play.processes:
                self.same(play.view(process), tuple(model.views[process]))
            rests = model.next_moves() == []
            self.same((play.is_quiet(), play.is_still()), (rests and model.pending() == (), rests and model.pending() != ()))
            self.same((list(play), len(play)), (list(play.moves), len(model.moves)))

    def test_views_item_by_item(self):
        play = TalkPlay(CHATTY, "p", "q")
        moves = (WISH_A, ("act", "p"), ("hear", 0), ("act", "q"), ("hear", 1), ("act", "p"), ("come", "a"), ("act", "q"))
        self.same(play.do_all(moves), 8)
        self.same(play.view("p"), (("at", "p"), ("wish", "a", "k", "q"), ("tell", "q", "wish"), ("told", "q", "thanks"), ("send", "a")))
        self.same(play.view("q"), (("at", "q"), ("told", "p", "wish"), ("tell", "p", "thanks"), ("come", "a", "k", "p"), ("read", "a")))
        self.same((play.moves, play.is_quiet()), (moves, True))

    def test_nothing_has_happened(self):
        play = TalkPlay(telling(p=("tell", "q", "word"), q=fail), "p", "q")
        self.same((list(play.next_moves()), play.is_quiet(), play.is_still(), play.settle()), ([], True, False, 0))
        self.fails(InvalidOperation, play.do, ("act", "p"))
        self.fails(InvalidOperation, play.do, ("act", "q"))
        self.same(play.do(WISH_A), 1)
        self.same((list(play.next_moves()), play.is_quiet()), ([("act", "p")], False))
        self.fails(InvalidOperation, play.do, ("act", "q"))
        self.same(play.do(("act", "p")), 2)

    def test_acts_that_cannot_be_done(self):
        for told in (("tell", "p", "word"), ("tell", "r", "word"), ("tell", "zz", "word"), ("send", "b"), ("send", "c"), ("send", "d"),
                     ("read", "a"), ("read", "b"), ("read", "c"), ("read", "d"), ("send", "e")):
            play = TalkPlay(telling(p=lambda view: ("send", "d") if len(view) == 4 else told, r=eager, q=("read", "d")), "p", "q", "r")
            play.do_all((WISH_A, WISH_B, ("wish", "c", "k", "r", "p"), ("wish", "e", "k", "p", "q"), ("wish", "d", "k", "p", "q"),
                         ("act", "p"), ("act", "r")))
            before = play.twin()
            # There is an act, but it cannot be done: c is under way to p, d is sent, b is another one's.
            if told == ("send", "e"):
                self.same(play.do(("act", "p")), 8)
                continue
            self.assertIn(("act", "p"), list(play.next_moves()))
            self.fails(InvalidOperation, play.do, ("act", "p"))
            self.fails(InvalidOperation, play.do_all, (("wish", "f", "k", "q", "r"), ("act", "p")))
            self.fails(InvalidOperation, play.do, ("act", "q"))
            self.assertEqual(play, before)
            self.same((play.is_still(), play.is_quiet()), (False, False))

    def test_processes_that_are_named(self):
        names = []

        def step(view):
            return ("tell", names[-1], "word") if view[0][1] == "p" and view[-1][0] != "tell" else None

        play = TalkPlay(Talker(step), "p", "q", "r", "s", "t")
        for move, name in ((WISH_A, "q"), (("wish", "c", "k", "p", "r"), "r")):
            play.do(move)
            names.append(name)
            play.do(("act", "p"))
        play.do(("wish", "d", "k", "p", "q"))
        for name in ("p", "s", "t", "u"):
            names.append(name)
            self.fails(InvalidOperation, play.do, ("act", "p"))
        names.append("q")
        self.same(play.do(("act", "p")), 6)
        other = TalkPlay(Talker(lambda view: {"s": ("send", "e") if len(view) == 2 else None, "p": ("tell", "s", "word")}[view[0][1]]), "p", "s")
        other.do_all((("wish", "e", "k", "s", "p"), ("act", "s"), ("come", "e"), ("act", "p"), ("hear", 0)))
        self.same(other.view("s")[-1], ("told", "p", "word"))
        # It was told a word by q, but r is not named by that.
        fourth = TalkPlay(telling(q=("tell", "p", "hey"), p=("tell", "r", "hey")), "p", "q", "r")
        fourth.do_all((WISH_B, ("act", "q"), ("hear", 0)))
        self.fails(InvalidOperation, fourth.do, ("act", "p"))
        third = TalkPlay(telling(t=("tell", "p", "hey"), p=lambda view: ("tell", view[-1][1], "yes")), "p", "t")
        third.do_all((("wish", "f", "k", "t", "p"), ("act", "t"), ("hear", 0), ("act", "p"), ("hear", 1)))
        self.same(third.view("t")[-1], ("told", "p", "yes"))

    def test_letters_of_the_talkers_own_come_in_any_order(self):
        many = TalkPlay(telling(p=lambda view: ("tell", "q", NAMES[len(view)]) if len(view) < 6 else None), "p", "q")
        many.do_all((WISH_A, ("act", "p"), ("act", "p"), ("act", "p"), ("act", "p")))
        self.same(list(many.next_moves()), [("hear", 0), ("hear", 1), ("hear", 2), ("hear", 3)])
        many.do_all((("hear", 2), ("hear", 0), ("hear", 3)))
        self.same(list(many.next_moves()), [("hear", 1)])
        for number in (0, 2, 3, 4, -1, -2, HUGE, True, False, None, "1", (1,), "a"):
            self.fails(InvalidOperation, many.do, ("hear", number))
        self.same((many.is_still(), many.pending), (False, ("a",)))
        many.do(("hear", 1))
        self.same(many.view("q")[1:], tuple(("told", "p", NAMES[at]) for at in (4, 2, 5, 3)))
        self.same((many.is_still(), many.back(many=3)), (True, 6))
        self.same(list(many.next_moves()), [("hear", 0), ("hear", 1), ("hear", 3)])
        self.same((many.back(), list(many.next_moves())), (5, [("hear", 0), ("hear", 1), ("hear", 2), ("hear", 3)]))
        self.fails(InvalidOperation, many.do, ("hear", True))
        for word in ("told", "tell", "act", "come", None, 0, ("hear",)):
            self.fails(InvalidOperation, many.do, (word, 0))
        self.fails(InvalidOperation, many.do, ("hear", 0, 0))

    def test_more_than_nine_letters_of_its_own(self):
        play = TalkPlay(telling(p=("tell", "q", "word")), "p", "q")
        play.do_all((WISH_A, *[("act", "p")] * 12))
        self.same(list(play.next_moves()), [("act", "p"), *[("hear", number) for number in range(12)]])

    def test_no_moves(self):
        play = TalkPlay(EAGER, "p", "q")
        play.do_all((WISH_A, WISH_B, ("act", "p")))
        good = (("come", "a"), ("wish", "c", "k", "q", "p"))
        for value in (*VALUES, *(("wish", *parts) for parts in (("a", "k", "p", "q"), ("c", "k", "p", "p"), ("c", "k", "p", "r"),
                      ("c", "K", "p", "q"), ("c", "k", "p"), ("c", "k", "p", "q", "r"), (["c"], "k", "p", "q"), (5, "k", "p", "q"))),
                      ("act",), ("act", "p"), ("act", "r"), ("act", ["q"]), ("act", "q", "q"), ["act", "q"], ("come", "b"), ("come", "c"),
                      ("come", ["a"]), ("come", "a", "a"), ("hear", 0), ("send", "b"), ("read", "a"), ("tell", "q", "word"), (["act"], "q"),
                      ("told", "q", "word"), (True, "q"), ({}, "q"), (None, None),
                      *((word, "c", "k", "q", "p") for word in ("come", "act", "hear", "send", None, 5))):
            self.fails(InvalidOperation, play.do, value)
            self.fails(InvalidOperation, play.do_all, (*good, value))
            self.same(len(play), 3)
        for value in others(tuple):
            self.fails(InvalidOperation, play.do_all, value)
        self.fails(InvalidOperation, play.do_all, list(good))
        self.same((play.do_all(()), play.do_all(good)), (3, 5))

    def test_sixty_wishes(self):
        play = TalkPlay(EAGER, "p", "q")
        self.same(play.do_all(tuple(("wish", name, "k", "p", "q") for name in NAMES[:60])), 60)
        self.fails(InvalidOperation, play.do, ("wish", NAMES[60], "k", "p", "q"))
        self.same((play.settle(), play.is_quiet(), len(play.run())), (180, True, 60))
        self.fails(InvalidOperation, play.do, ("wish", NAMES[60], "k", "p", "q"))
        play.back(many=181)
        self.same((len(play), play.do(("wish", NAMES[60], "k", "p", "q"))), (59, 60))

    def test_errors_of_the_talker(self):
        for error, talker in ((Failure, telling(q=fail)), (InvalidOperation, telling(q=5)), (InvalidOperation, telling(q=("send",)))):
            play = TalkPlay(talker, "p", "q")
            play.do(WISH_A)
            self.same((list(play.next_moves()), play.is_still()), ([], True))
            play.do(WISH_B)
            moves = play.next_moves()
            self.fails(error, next, moves)
            self.fails(error, play.do, ("act", "q"))
            self.fails(error, play.do_all, (("wish", "c", "k", "p", "q"), ("act", "q")))
            self.fails(error, play.is_still)
            self.same(play.is_quiet(), False)
            self.fails(error, play.settle)
            self.same(play.moves, (WISH_A, WISH_B))

    def test_moves_are_found_at_once(self):
        play = TalkPlay(EAGER, "p", "q")
        play.do_all((WISH_A, WISH_B))
        moves = play.next_moves()
        self.same(next(moves), ("act", "p"))
        play.do_all((("act", "p"), ("act", "q")))
        self.same((list(moves), list(play.next_moves())), ([("act", "q")], [("come", "a"), ("come", "b")]))


class SettleTests(Case):
    def test_exactly_behind_most(self):
        for most in (3, 4, 1000, 10000):
            play = TalkPlay(EAGER, "p", "q")
            play.do(WISH_A)
            self.same((play.settle(most=most), len(play), play.is_quiet()), (3, 4, True))
            self.same(play.settle(most=1), 0)
        for most in (1, 2):
            play = TalkPlay(EAGER, "p", "q")
            play.do(WISH_A)
            self.fails_with(TooMany, most, play.settle, most=most)
            self.same(play.moves, (WISH_A,))

    def test_never(self):
        play = TalkPlay(telling(p=("tell", "q", "more")), "p", "q")
        play.do(WISH_A)
        self.fails_with(TooMany, 1000, play.settle)
        self.fails_with(TooMany, 1, play.settle, most=1)
        self.fails_with(TooMany, 10000, play.settle, most=10000)
        self.same((play.moves, play.view("p"), play.view("q")), ((WISH_A,), (("at", "p"), ("wish", "a", "k", "q")), (("at", "q"),)))
        stops = telling(p=lambda view: ("tell", "q", "more") if len(view) < 502 else None)
        play = TalkPlay(stops, "p", "q")
        play.do(WISH_A)
        self.fails_with(TooMany, 999, play.settle, most=999)
        self.same((play.settle(), play.is_still()), (1000, True))

    def test_most(self):
        play = TalkPlay(EAGER, "p", "q")
        play.do(WISH_A)
        for value in (*others(int), 0, -1, 10001, HUGE, True, False):
            self.fails_with(InvalidNumber, value, play.settle, most=value)
        self.fails_with(TooMany, 1, play.settle, most=1)

    def test_acts_that_cannot_be_done(self):
        for talker, error in ((telling(p=("send", "a")), InvalidOperation), (telling(p=lambda view: eager(view) or fail()), Failure)):
            play = TalkPlay(talker, "p", "q")
            play.do(WISH_A)
            self.fails(error, play.settle)
            self.same(play.moves, (WISH_A,))
        play = TalkPlay(telling(p=("read", "a")), "p", "q")
        play.do(WISH_A)
        self.fails(InvalidOperation, play.settle)
        self.same(play.moves, (WISH_A,))

    def test_any_moves(self):
        for seed in range(20):
            play, _ = walked(random.Random(seed), CHATTY, 25)
            before = play.moves
            many = play.settle()
            self.same((play.moves[:len(before)], len(play)), (before, len(before) + many))
            self.same((list(play.next_moves()), play.is_quiet()), ([], True))
            self.assertFalse(any(move[0] == "wish" for move in play.moves[len(before):]))
            again = TalkPlay(CHATTY, *play.processes)
            again.do_all(play.moves)
            self.assertEqual(again, play)


class PlayTests(Case):
    def test_plain(self):
        play = TalkPlay(IDLE, "q", "p")
        self.assertIs(play.talker, IDLE)
        self.same((play.processes, play.moves, play.pending, len(play), list(play)), (("p", "q"), (), (), 0, []))
        self.same((str(play), bool(play), play.view("p")), ("talk of 2 processes, 0 moves", False, (("at", "p"),)))
        play.do(WISH_A)
        self.same((str(play), bool(play), play.is_still()), ("talk of 2 processes, 1 moves", True, True))
        self.assertEqual(TalkPlay.of(IDLE, ("q", "p")), TalkPlay(IDLE, "p", "q"))
        self.same((TalkPlay.of(IDLE, ()).processes, str(TalkPlay(IDLE))), ((), "talk of 0 processes, 0 moves"))

    def test_errors(self):
        for value in (*others(Talker), Transport(Marking())):
            self.fails(InvalidTransport, TalkPlay, value, 5)
            self.fails(InvalidTransport, TalkPlay.of, value, 5)
        for value in others(tuple):
            self.fails(InvalidName, TalkPlay.of, IDLE, value)
        for value in (*others(str), "", "A", "a b", "abcdefghi"):
            self.fails(InvalidName, TalkPlay, IDLE, value)
            self.fails(InvalidName, TalkPlay, IDLE, "p", "p", value)
            self.fails(InvalidName, TalkPlay.of, IDLE, ("p", value))
        self.fails(InvalidOperation, TalkPlay, IDLE, "p", "q", "p")
        self.fails(InvalidOperation, TalkPlay, IDLE, *NAMES[:41], "a")
        self.same(len(TalkPlay(IDLE, *NAMES[:40]).processes), 40)
        self.fails_with(TooMany, 40, TalkPlay, IDLE, *NAMES[:41])
        self.fails_with(TooMany, 40, TalkPlay.of, IDLE, NAMES[:41])
        play = TalkPlay(IDLE, "p", "q")
        for value in (*VALUES, "r", ["p"]):
            self.fails_with(UnknownName, value, play.view, value)
        for name in ("talker", "processes", "moves", "pending"):
            self.fails(AttributeError, setattr, play, name, 5)

    def test_back(self):
        for seed in range(20):
            play, _ = walked(random.Random(seed), (CHATTY, Talker.asking())[seed % 2], 40)
            moves = play.moves
            for many in (0, 1, 3, 7):
                before = len(play)
                self.same(play.back(many=many), before - many)
                again = TalkPlay(play.talker, *play.processes)
                again.do_all(moves[:before - many])
                self.assertEqual(play, again)
                self.same([play.view(process) for process in "pqr"], [again.view(process) for process in "pqr"])
                self.same((play.pending, list(play.next_moves())), (again.pending, list(again.next_moves())))
                self.assertEqual(play.run(), again.run())
            for value in (*others(int), -1, -HUGE, True, False):
                self.fails_with(InvalidNumber, value, play.back, many=value)
            for value in (len(play) + 1, HUGE):
                self.fails_with(NothingToUndo, value, play.back, many=value)
            self.same((play.back(), play.back(many=len(play))), (len(moves) - 12, 0))
            self.fails_with(NothingToUndo, 1, play.back)
            self.assertEqual(play, TalkPlay(play.talker, *play.processes))
            self.same((play.pending, list(play.next_moves()), play.do_all(moves)), ((), [], len(moves)))

    def test_trial(self):
        play, _ = walked(random.Random(7), CHATTY, 20)
        before = play.twin()
        with play.trial() as same:
            self.assertIs(same, play)
            play.back(many=3)
            play.do(("wish", "zz", "k", "p", "q"))
            with play.trial():
                play.settle()
                inner = play.twin()
                with self.assertRaises(Failure):
                    with play.trial():
                        play.back(many=2)
                        fail()
                self.assertEqual(play, inner)
            self.same(len(play), 18)
        self.assertEqual(play, before)
        with self.assertRaises(InvalidOperation):
            with play.trial():
                play.do(("wish", "zz", "k", "p", "q"))
                play.do(("come", "zz"))
        self.assertEqual(play, before)
        self.same((play.do(("wish", "zz", "k", "p", "q")), play.back()), (21, 20))

    def test_attempt(self):
        play, _ = walked(random.Random(8), CHATTY, 10)
        before = play.twin()
        self.same(play.attempt(lambda same: (same is play, same.do(("wish", "zz", "k", "p", "q")), len(same))), (True, 11, 11))
        self.fails(Failure, play.attempt, lambda same: (same.back(), fail()))
        self.assertEqual(play, before)
        self.same(play.attempt(lambda same: same.attempt(lambda again: again.back(many=4)) + len(same)), 16)

    def test_twin(self):
        play, _ = walked(random.Random(9), CHATTY, 15)
        twin = play.twin()
        self.assertTrue(twin == play and twin is not play)
        self.assertIs(twin.talker, play.talker)
        twin.back(many=5)
        play.do(("wish", "zz", "k", "p", "q"))
        self.same((len(play), len(twin)), (16, 10))

    def test_equal(self):
        one, two = TalkPlay(IDLE, "p", "q"), TalkPlay(EAGER, "q", "p")
        self.assertTrue(one == two and not one != two)
        self.assertTrue(one != TalkPlay(IDLE, "p", "q", "r"))
        one.do(WISH_A)
        two.do(WISH_A)
        self.assertTrue(one == two)
        one, two = (TalkPlay(telling(p=("tell", "q", word)), "p", "q") for word in ("one", "two"))
        for play in (one, two):
            play.do(WISH_A)
        self.assertTrue(one == two)
        for play in (one, two):
            play.do(("act", "p"))
        self.assertTrue(one != two and one.moves == two.moves)
        one, two = TalkPlay(IDLE, "p", "q"), TalkPlay(IDLE, "p", "q")
        one.do_all((WISH_A, WISH_B))
        two.do_all((WISH_B, WISH_A))
        self.assertTrue(one != two)
        for value in (*VALUES, IDLE, one.moves):
            self.assertTrue(one != value and not one == value)

    def test_nothing_gives_access(self):
        play = TalkPlay(EAGER, "p", "q")
        play.do(WISH_A)
        seen = iter(play)
        play.settle()
        self.same((list(seen), len(play)), ([WISH_A], 4))
        play.run().rows.clear()
        self.same(play.run().rows["q"], (("read", "a"),))


class AskingTests(Case):
    def check_view(self, view):
        """Each act of a process is one that the words of [14.3] allow."""
        me, asked, granted, promised, waiting, left, came = view[0][1], False, False, None, [], [], []
        for item in view[1:]:
            if item[0] == "wish":
                left.append((item[1], item[3]))
            elif item[0] == "come":
                came.append(item[1])
            elif item[0] == "told":
                if item[2] == "ask":
                    waiting.append(item[1])
                else:
                    self.same((asked, item), (True, ("told", left[0][1], "yes")))
                    granted = True
            elif item[0] == "read":
                self.assertIsNotNone(promised)
                came.remove(item[1])
                promised = None
            else:
                self.assertIsNone(promised, view)
                if item[0] == "send":
                    self.same((granted, item[1]), (True, left.pop(0)[0]))
                    asked = granted = False
                elif item[2] == "ask":
                    self.same((asked, item), (False, ("tell", left[0][1], "ask")))
                    asked = True
                else:
                    self.same(item[2], "yes")
                    waiting.remove(item[1])
                    self.assertTrue(not asked or item[1] < me)
                    promised = item[1]

    def check_end(self, play):
        self.assertTrue(play.is_quiet())
        run = play.run()
        self.assertTrue(is_in(run, "single"))
        many = [move[0] for move in play.moves]
        self.same((many.count("hear"), many.count("wish"), len(play)), (2 * len(run), len(run), 8 * len(run)))
        for process in play.processes:
            self.check_view(play.view(process))
        sent = []
        again = TalkPlay(Talker.asking(), *play.processes)
        for move in play.moves:
            again.do(move)
            if move[0] == "act" and again.view(move[1])[-1][0] == "send":
                sent.append(again.view(move[1])[-1][1])
        self.assertTrue(is_letter_row(run, tuple(sent)))

    def test_walks(self):
        for seed in range(80):
            chance = random.Random(seed)
            processes = ("pq", "pqr", "pqrst", "abcdef")[seed % 4]
            play, _ = walked(chance, Talker.asking(), 200, processes, wishes=3 + seed % 10)
            self.assertFalse(play.is_still())
            if seed % 2:
                play.settle()
            while not play.is_quiet():
                self.assertFalse(play.is_still())
                play.do(chance.choice(list(play.next_moves())))
            self.check_end(play)

    def test_all_ask_at_once(self):
        for many in (2, 3, 5, 7):
            processes = NAMES[:many]
            for shift in range(1, many):
                play = TalkPlay(Talker.asking(), *processes)
                for at, process in enumerate(processes):
                    play.do(("wish", process * 2, "k", process, processes[(at + shift) % many]))
                for process in processes:
                    play.do(("act", process))
                self.same([item[0] for process in processes for item in play.view(process)[2:]], ["tell"] * many)
                play.do_all(tuple(("hear", number) for number in range(many)))
                play.settle()
                self.check_end(play)

    def test_yes_to_lesser_names_only_while_it_has_asked(self):
        talker = Talker.asking()
        ahead = (("at", "p"), ("wish", "x", "k", "q"), ("tell", "q", "ask"))
        self.assertIsNone(talker(ahead))
        self.same(talker(ahead[:2]), ("tell", "q", "ask"))
        self.assertIsNone(talker((*ahead, ("told", "q", "ask"))))
        self.same(talker((*ahead, ("told", "a", "ask"))), ("tell", "a", "yes"))
        self.same(talker((*ahead, ("told", "q", "ask"), ("told", "q", "yes"))), ("send", "x"))
        self.same(talker((*ahead, ("told", "q", "ask"), ("told", "q", "yes"), ("send", "x"))), ("tell", "q", "yes"))
        self.assertIn(talker((*ahead, ("told", "b", "ask"), ("told", "a", "ask"), ("told", "z", "ask"))),
                      (("tell", "a", "yes"), ("tell", "b", "yes")))
        promised = (*ahead, ("told", "a", "ask"), ("tell", "a", "yes"))
        for further in ((), (("told", "b", "ask"),), (("told", "q", "yes"),), (("wish", "y", "k", "q"),)):
            self.assertIsNone(talker((*promised, *further)))
            self.same(talker((*promised, *further, ("come", "y", "k", "a"))), ("read", "y"))
        self.same(talker((*promised, ("told", "q", "yes"), ("come", "y", "k", "a"), ("read", "y"))), ("send", "x"))
        self.same(talker((("at", "p"), ("told", "z", "ask"))), ("tell", "z", "yes"))
        self.same(talker((*ahead, ("told", "q", "yes"), ("send", "x"), ("wish", "y", "k", "r"))), ("tell", "r", "ask"))

    def test_first_wished_letter_first(self):
        play = TalkPlay(Talker.asking(), "p", "q", "r")
        play.do_all((("wish", "z", "k", "p", "q"), ("wish", "a", "k", "p", "r")))
        play.settle()
        self.same([item[1] for item in play.view("p") if item[0] == "send"], ["z", "a"])
        self.check_end(play)

    def test_many_letters(self):
        chance = random.Random(5)
        processes = NAMES[:40]
        play = TalkPlay(Talker.asking(), *processes)
        play.do_all(tuple(("wish", name, "k", *chance.sample(processes, 2)) for name in NAMES[:60]))
        self.same((play.settle(), play.is_quiet(), len(play.run())), (420, True, 60))
        self.assertTrue(is_in(play.run(), "single"))


if __name__ == "__main__":
    unittest.main()
