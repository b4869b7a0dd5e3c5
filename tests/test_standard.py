"""[13.1] to [13.3]: standard transports."""

import random
import unittest

from letterrules.base.letters import new_names
from letterrules.errors import Held, InvalidMarking, InvalidOperation, InvalidRun, InvalidTransport, UnknownName
from letterrules.marks.known import WORDS, Marking, is_calm, known
from letterrules.plays.plays import Play, Transport
from letterrules.plays.standard import blocking, first_held, known_by, marked, noted, numbered, played, silent
from letterrules.runs.runs import Run
from support import LAST, VALUES, Case, all_whole_runs, others, run_of, some_run

EXAMPLES = """
>>> [first_held(noted(), LAST), first_held(numbered(), LAST), first_held(marked(Marking(order="notes")), LAST)]
[('read', 'c'), None, None]
>>> play = played(numbered(), LAST)
>>> [play.mark("b"), play.mark("c"), known_by(play.view("q")), play.run() == LAST]
[(('a', 'q'),), (), (('a', 'q'), ('c', 'q')), True]
"""

KINDS = ("k", "l", "m", "other")
MARKINGS = (
    Marking(), Marking.even("numbers"), Marking.even("notes"), Marking(k="numbers", l="notes"),
    Marking(other="notes", k="nothing", l="numbers"), Marking(other="numbers", m="notes"), Marking(k="notes"),
)


class Failure(Exception):
    """An error of a transport's own."""


def fail(*parts):
    raise Failure(parts)


def walk(chance, transport, many, processes):
    """Yield a play behind each step of a random walk: wishes, and steps that are allowed."""
    play = Play(transport, *processes)
    names = list(new_names(30))
    chance.shuffle(names)
    for _ in range(many):
        steps = list(play.next_steps())
        if not steps or chance.random() < 0.2:
            steps = [("wish", names.pop(), chance.choice(KINDS), *chance.sample(processes, 2))]
        play.do(chance.choice(steps))
        yield play


def naive_known(run, marking, process):
    """What a process knows behind its row, by the words of [0.13]."""
    row = run.rows[process]
    return known(run, marking, process, len(row) - 1) if row else ()


def with_readers(play, letters):
    return tuple((letter, play.letters[letter][2]) for letter in letters)


def items(play, process, word):
    return [item for item in play.view(process) if item[0] == word]


def came_unread(play, process):
    done = {item[1] for item in items(play, process, "read")}
    return [item for item in items(play, process, "come") if item[1] not in done]


def naive_blocking(play, process, mark):
    done = {item[1] for item in items(play, process, "read")}
    return tuple(name for name, reader in mark or () if reader == process and name not in done)


def with_reading(run, letter):
    """The run in which a letter is read behind the row of its reader."""
    reader = run.letters[letter][2]
    return Run(run.letters, {**run.rows, reader: (*run.rows[reader], ("read", letter))})


class ExampleTests(Case):
    def test_examples(self):
        self.examples(EXAMPLES, dict(globals()))


class StandardTests(Case):
    def test_markings(self):
        for one, marking in ((silent(), Marking()), (numbered(), Marking.even("numbers")), (noted(), Marking.even("notes"))):
            self.assertIs(type(one), Transport)
            self.assertEqual(one.marking, marking)
        for marking in MARKINGS:
            self.assertIs(marked(marking).marking, marking)
        for value in others(Marking):
            self.fails(InvalidMarking, marked, value)

    def test_marks(self):
        for seed in range(30):
            chance = random.Random(seed)
            marking = MARKINGS[seed % len(MARKINGS)]
            before = None
            for play in walk(chance, marked(marking), 60, ("pq", "pqr", "pqrs")[seed % 3]):
                step = play.steps[-1]
                if step[0] == "send":
                    kind, sender, reader = play.letters[step[1]]
                    word = marking[kind]
                    if word == "nothing":
                        wanted = None
                    elif word == "numbers":
                        wanted = tuple(sorted(with_readers(play, [item[1] for item in items(before, sender, "send")])))
                    else:
                        wanted = with_readers(play, naive_known(before.run(), marking, sender))
                    self.same(play.mark(step[1]), wanted)
                before = play.twin()

    def test_mixed_words(self):
        play = Play(marked(Marking(k="numbers", l="notes")), "p", "q", "r")
        for letter, kind, sender, reader in (("b", "k", "p", "q"), ("c", "other", "r", "p"), ("a", "k", "p", "r"), ("d", "l", "p", "q"),
                                             ("e", "m", "p", "q"), ("f", "k", "p", "q")):
            play.do_all((("wish", letter, kind, sender, reader), ("send", letter)))
            if letter == "c":
                play.do_all((("come", letter), ("read", letter)))
        self.same([play.mark(letter) for letter in "bcadef"],
                  [(), None, (("b", "q"),), (("a", "r"), ("b", "q"), ("c", "p")), None,
                   (("a", "r"), ("b", "q"), ("d", "q"), ("e", "q"))])

    def test_what_may_be_read(self):
        for seed in range(30):
            chance = random.Random(100 + seed)
            marking = MARKINGS[seed % len(MARKINGS)]
            for play in walk(chance, marked(marking), 50, ("pq", "pqr", "pqrs")[seed % 3]):
                for process in play.processes:
                    self.same(known_by(play.view(process)), with_readers(play, naive_known(play.run(), marking, process)))
                    for _, letter, _, _, mark in came_unread(play, process):
                        wanted = naive_blocking(play, process, mark)
                        self.same(blocking(play.view(process), letter), wanted)
                        self.assertIs(play.may(("read", letter)), wanted == ())
                        # What is known then must be read then, or the run is not calm, whatever comes later.
                        new = naive_known(with_reading(play.run(), letter), marking, process)
                        late = [one for one in new if play.run().letters[one][2] == process and one != letter
                                and ("read", one) not in play.run()]
                        self.same(tuple(late), wanted)
                for letter in play.pending:
                    kind, sender, reader = play.letters[letter]
                    if ("send", letter) not in play.view(sender):
                        self.assertIs(play.may(("send", letter)), True)
                self.assertFalse(play.is_still())

    def test_blocking_errors(self):
        play = Play(noted(), "p", "q", "r")
        play.do_all((("wish", "a", "k", "p", "q"), ("wish", "b", "k", "p", "q"), ("wish", "c", "k", "p", "r"), ("send", "a"), ("send", "b"),
                     ("send", "c"), ("come", "a"), ("read", "a"), ("come", "c")))
        for value in (*VALUES, "b", "c", "z", ["a"]):
            self.fails_with(UnknownName, value, blocking, play.view("q"), value)
        play.come("b")
        self.same(blocking(play.view("q"), "b"), ())
        self.fails_with(UnknownName, "a", blocking, play.view("q"), "a")
        self.same(blocking(play.view("r"), "c"), ())
        play.read("b")
        self.fails_with(UnknownName, "b", blocking, play.view("q"), "b")
        self.same(known_by((("at", "p"),)), ())

    def test_held_letters(self):
        play = Play(numbered(), "p", "q")
        for letter in "cab":
            play.do_all((("wish", letter, "k", "p", "q"), ("send", letter)))
        play.do_all((("come", "b"), ("come", "a")))
        self.same([blocking(play.view("q"), letter) for letter in "ab"], [("c",), ("a", "c")])
        self.fails_with(Held, ("read", "a"), play.read, "a")
        play.come("c")
        play.read("c")
        self.same([blocking(play.view("q"), letter) for letter in "ab"], [(), ("a",)])

    def test_each_held_letter_is_in_no_calm_run(self):
        for seed in range(40):
            chance = random.Random(seed)
            marking = MARKINGS[seed % len(MARKINGS)]
            for play in walk(chance, marked(marking), 24, "pqr"):
                run = play.run()
                if len(run.unread) > 4:
                    break
                for process in play.processes:
                    for _, letter, _, _, mark in came_unread(play, process):
                        ends = list(all_whole_runs(with_reading(run, letter)))
                        if not play.may(("read", letter)):
                            self.assertFalse(any(is_calm(end, marking) for end in ends))
                        elif is_calm_so_far(run, marking):
                            self.assertTrue(any(is_calm(end, marking) for end in ends))

    def test_quiet_plays_are_calm(self):
        for seed in range(40):
            chance = random.Random(seed)
            marking = MARKINGS[seed % len(MARKINGS)]
            *_, play = walk(chance, marked(marking), 40, "pqr")
            while not play.is_quiet():
                play.do(chance.choice(list(play.next_steps())))
            self.assertTrue(is_calm(play.run(), marking))


def is_calm_so_far(run, marking):
    return any(is_calm(end, marking) for end in all_whole_runs(run))


class RunTests(Case):
    def test_calm_runs_are_made(self):
        found = {True: 0, False: 0}
        for seed in range(300):
            chance = random.Random(seed)
            run = some_run(chance, 2 + seed % 5, ("pq", "pqr", "pqrs")[seed % 3], read=1, kinds=KINDS)
            for marking in MARKINGS:
                calm = is_calm(run, marking)
                found[calm] += 1
                step = first_held(marked(marking), run)
                if calm:
                    self.assertIsNone(step)
                    play = played(marked(marking), run)
                    self.assertEqual(play.run(), run)
                    self.assertTrue(play.is_quiet())
                    self.is_direct(play)
                else:
                    self.is_held(marked(marking), run, step)
                    self.fails_with(Held, first_held(marked(marking), run), played, marked(marking), run)
        self.assertGreater(min(found.values()), 100)

    def is_direct(self, play):
        for at, step in enumerate(play.steps):
            if step[0] in ("wish", "come"):
                self.same(play.steps[at + 1], ("send" if step[0] == "wish" else "read", step[1]))
            else:
                self.same(play.steps[at - 1][1], step[1])

    def is_held(self, transport, run, step):
        """All that is ahead of the step can be played, and then it is not allowed."""
        self.assertIn(step, run)
        play = Play(transport, *run.processes)
        for event in run.past(step):
            word, letter = event
            play.do(("wish", letter, *run.letters[letter]) if word == "send" else ("come", letter))
            if event == step:
                self.fails_with(Held, step, play.do, event)
            else:
                play.do(event)

    def test_views_are_the_same_in_all_direct_plays(self):
        for seed in range(60):
            chance = random.Random(seed)
            run = some_run(chance, 5, "pqr", read=1, kinds=KINDS)
            for marking in MARKINGS:
                if is_calm(run, marking):
                    wanted = played(marked(marking), run)
                    play = Play(marked(marking), *run.processes)
                    left = list(run.order)
                    while left:
                        event = chance.choice([one for one in left if not any(run(other, one) for other in left)])
                        left.remove(event)
                        word, letter = event
                        play.do_all((("wish", letter, *run.letters[letter]) if word == "send" else ("come", letter), event))
                    self.assertEqual([play.view(name) for name in run.processes], [wanted.view(name) for name in run.processes])

    def test_other_transports(self):
        transport = Transport(Marking(), may_send=lambda view, letter: letter != "b")
        self.same(first_held(transport, LAST), ("send", "b"))
        self.fails_with(Held, ("send", "b"), played, transport, LAST)
        stuck = Transport(Marking(), may_read=lambda view, letter: len(view) < 3)
        self.same(first_held(stuck, LAST), ("read", "a"))
        self.assertEqual(played(Transport(Marking()), LAST).run(), LAST)

    def test_runs_without_letters_and_large_runs(self):
        empty = Run({}, {"p": (), "zz": ()})
        self.same((played(noted(), empty).processes, first_held(noted(), empty)), (("p", "zz"), None))
        self.same(played(silent(), Run({}, {})).steps, ())
        names = new_names(60)
        row = Run({name: ("k", "p", "q") for name in names}, {"p": tuple(("send", name) for name in names),
                                                               "q": tuple(("read", name) for name in names)})
        for transport in (silent(), numbered(), noted()):
            play = played(transport, row)
            self.same((len(play), play.run() == row), (240, True))
        self.same(len(played(noted(), row).mark(names[59])), 59)

    def test_errors(self):
        unread = run_of("p +a +b, q -a")
        for action in (played, first_held):
            for value in others(Transport):
                self.fails(InvalidTransport, action, value, LAST)
                self.fails(InvalidTransport, action, value, 5)
                self.fails(InvalidTransport, action, value, unread)
            for value in (*others(Run), unread):
                self.fails(InvalidRun, action, silent(), value)
            self.fails(Failure, action, Transport(Marking(), may_send=fail), LAST)
            self.fails(Failure, action, Transport(Marking(), may_read=fail), LAST)
            self.fails(Failure, action, Transport(Marking.even("notes"), note=fail), LAST)
            self.fails(InvalidOperation, action, Transport(Marking(), may_send=lambda view, letter: 1), LAST)
            self.fails(InvalidOperation, action, Transport(Marking.even("numbers"), number=lambda *parts: []), LAST)
        for word in WORDS:
            self.fails(InvalidRun, played, marked(Marking.even(word)), unread)


if __name__ == "__main__":
    unittest.main()
