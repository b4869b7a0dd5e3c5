"""[15.1] to [15.5]: drivers, and their papers."""

import random
import unittest
import zlib

from letterrules.answers.answers import answer, breaking_paper
from letterrules.base.letters import new_names
from letterrules.drive.drivers import beat, drive, is_beat_paper, is_drive_paper, seen_part
from letterrules.errors import InvalidMarking, InvalidNumber, InvalidOperation, InvalidRule, InvalidRun, InvalidTransport, UnknownName
from letterrules.marks.known import WORDS, Marking, is_calm
from letterrules.marks.least import keeps, least_markings
from letterrules.plays.plays import Play, Transport
from letterrules.plays.standard import first_held, marked, noted, numbered, silent
from letterrules.plays.talkers import Talker, TalkPlay
from letterrules.rules.breaks import breaks
from letterrules.rules.patterns import Pattern, Rule
from letterrules.runs.runs import Run
from letterrules.runs.sets import is_in, letter_row
from support import CROSS, HUGE, LAST, OVERTAKE, STALE, VALUES, Case, many_patterns, others, run_of, some_run

EXAMPLES = """
>>> stuck = Transport(Marking(), may_read=lambda view, letter: len(view) < 3)
>>> [drive(LAST, silent())[0], drive(LAST, stuck)[0], beat(Rule(STALE), numbered())[0], is_drive_paper(LAST, silent(), ("made", ()))]
['made', 'still', 'broken', False]
>>> [seen_part(LAST, Marking(), ("read", "c")).letters, seen_part(LAST, Marking.even("notes"), ("read", "c")).rows["p"]]
[{'c': ('report', 'r', 'q')}, (('send', 'a'), ('send', 'b'))]
"""

KINDS = ("k", "l", "m", "other")
NEVER = Rule(Pattern(x=None))
ONE = run_of("p +a, q -a")
# p sends a and b to q, which sends c to p between them.
TALK = run_of("p +a -c +b, q -a +c -b")


class Failure(Exception):
    """An error of a transport's own."""


def fail(*parts):
    raise Failure(parts)


def number_of(*parts):
    return zlib.crc32(repr(parts).encode())


def moody(seed, marking, often):
    """A transport that holds letters and marks them by whim, but by the same one for the same view."""
    return Transport(
        marking, may_send=lambda view, letter: number_of(seed, 1, view, letter) % 100 >= often,
        may_read=lambda view, letter: number_of(seed, 2, view, letter) % 100 >= often,
        number=lambda *parts: number_of(seed, 3, parts) % 4, note=lambda *parts: (number_of(seed, 4, parts) % 4, "x"),
    )


def some_marking(chance):
    return Marking.of({kind: chance.choice(WORDS) for kind in KINDS if chance.random() < 0.7})


def eager(view):
    """Send each wished letter, and read each one that has come."""
    done = {item[:2] for item in view}
    for item in view:
        if item[0] == "wish" and ("send", item[1]) not in done:
            return ("send", item[1])
        if item[0] == "come" and ("read", item[1]) not in done:
            return ("read", item[1])
    return None


def deaf(view):
    """Send letters, but read none."""
    return eager(tuple(item for item in view if item[0] != "come"))


def restless(view):
    """As eager, and then words without an end to the reader of a letter."""
    return eager(view) or (("tell", view[1][3], "more") if view[1][0] == "wish" else None)


EAGER, DEAF, RESTLESS = Talker(eager), Talker(deaf), Talker(restless)


class ExampleTests(Case):
    def test_examples(self):
        self.examples(EXAMPLES, dict(globals()))


class SeenPartTests(Case):
    def naive(self, run, marking, event):
        """The events of the seen part, by the words of [15.3]."""
        rows, letters = run.rows, run.letters
        process, at = run.place(event)
        part = set(rows[process][:at])
        while True:
            more = set(part)
            for word, letter in part | {event}:
                if word == "read":
                    kind, sender, _ = letters[letter]
                    end = rows[sender].index(("send", letter))
                    more.add(("send", letter))
                    if marking[kind] == "numbers":
                        more |= {one for one in rows[sender][:end] if one[0] == "send"}
                    if marking[kind] == "notes":
                        more |= set(rows[sender][:end])
            if more == part:
                return part
            part = more

    def test_compared(self):
        for seed in range(60):
            chance = random.Random(seed)
            run = some_run(chance, 6, ("pq", "pqr", "pqrs")[seed % 3], read=1, kinds=KINDS)
            for marking in (Marking(), Marking.even("numbers"), Marking.even("notes"), some_marking(chance)):
                for event in run:
                    wanted = self.naive(run, marking, event)
                    part = seen_part(run, marking, event)
                    self.same(set(part), wanted)
                    self.same(part.processes, run.processes)
                    self.same(part.letters, {name: run.letters[name] for name in run.letters if ("send", name) in wanted})
                    for process in run.processes:
                        self.same(part.rows[process], tuple(one for one in run.rows[process] if one in wanted))

    def test_words(self):
        run = run_of("p +a +b -d +c, q -a +d -c -b, r +e, s -e", b="l", c="m")
        event = ("read", "c")
        self.same([seen_part(run, Marking(), event).rows[name] for name in "pqr"],
                  [(("send", "a"), ("send", "c")), (("read", "a"), ("send", "d")), ()])
        self.same(seen_part(run, Marking(m="numbers"), event).rows["p"], (("send", "a"), ("send", "b"), ("send", "c")))
        self.same(seen_part(run, Marking(m="notes"), event).rows["p"], (("send", "a"), ("send", "b"), ("read", "d"), ("send", "c")))
        self.same(seen_part(run, Marking(b="notes", k="notes"), event).rows["p"], (("send", "a"), ("send", "c")))
        self.same(seen_part(run, Marking.even("notes"), ("send", "a")).rows, {name: () for name in "pqrs"})
        self.same(seen_part(run, Marking.even("notes"), ("read", "e")).rows["r"], (("send", "e"),))
        self.same(seen_part(run, Marking(), ("send", "c")).rows["p"], (("send", "a"), ("send", "b"), ("read", "d")))
        self.assertIs(type(seen_part(run, Marking(), event)), Run)

    def test_errors(self):
        unread = run_of("p +a +b, q -a")
        for value in (*others(Run), unread):
            self.fails(InvalidRun, seen_part, value, Marking(), ("send", "a"))
            self.fails(InvalidRun, seen_part, value, 5, 5)
        for value in others(Marking):
            self.fails(InvalidMarking, seen_part, LAST, value, ("send", "a"))
            self.fails(InvalidMarking, seen_part, LAST, value, 5)
        for value in (*VALUES, ("send", "z"), ("sent", "a"), ["send", "a"]):
            if value != ("send", "a"):
                self.fails_with(UnknownName, value, seen_part, LAST, Marking(), value)


class TransportTests(Case):
    def steps_of(self, run, order):
        steps = []
        for word, letter in order:
            steps.append(("wish", letter, *run.letters[letter]) if word == "send" else ("come", letter))
            steps.append((word, letter))
        return tuple(steps)

    def test_made_or_still(self):
        found = {"made": 0, "still": 0}
        for seed in range(500):
            chance = random.Random(seed)
            run = some_run(chance, chance.randrange(1, 9), "pqrs"[:chance.randrange(2, 5)], read=1, kinds=KINDS)
            marking = some_marking(chance)
            if not is_calm(run, marking):
                continue
            transport = moody(seed, marking, chance.choice((3, 10, 30)))
            word, steps = paper = drive(run, transport)
            found[word] += 1
            self.same(word == "made", first_held(transport, run) is None)
            self.assertIs(is_drive_paper(run, transport, paper), True)
            play = Play(transport, *run.processes)
            play.do_all(steps)
            if word == "made":
                self.assertEqual((play.run(), set(self.steps_of(run, run))), (run, set(steps)))
                self.assertEqual(steps, self.steps_of(run, [step for step in steps if step in run]))
            else:
                self.assertTrue(play.is_still())
                self.assertIs(is_drive_paper(run, transport, ("made", steps)), False)
                self.assertIs(is_drive_paper(run, transport, ("made", self.steps_of(run, run))), False)
        self.assertGreater(min(found.values()), 100)

    def test_live_transports_make_each_calm_run(self):
        for seed in range(200):
            chance = random.Random(seed)
            run = some_run(chance, 5, "pqr", read=1, kinds=KINDS)
            marking = some_marking(chance)
            if is_calm(run, marking):
                self.same(drive(run, marked(marking))[0], "made")

    def test_a_refused_event_of_a_calm_run_ends_still(self):
        run = run_of("p +a -e +b, q -a +e -b +c, r -c +d, s -d")
        for marking in (Marking(), Marking.even("numbers"), Marking.even("notes"), Marking(k="notes", other="numbers")):
            for event in run:
                word, letter = event
                fronts = len(run.rows[run.place(event)[0]][:run.place(event)[1]])

                def refuse(view, one):
                    return one != letter or len([item for item in view if item[0] in ("send", "read")]) != fronts

                transport = Transport(marking, **{"may_send" if word == "send" else "may_read": refuse})
                paper = drive(run, transport)
                self.same(paper[0], "still")
                self.assertIs(is_drive_paper(run, transport, paper), True)
                self.same((letter in [step[1] for step in paper[1]], event in paper[1]), (True, False))

    def test_a_part_in_which_another_event_is_refused(self):
        # By numbers the part in front of the reading of b has the sendings of p alone, and p sends b behind c only.
        run = run_of("r +c, p -c +a +b, q -b -a", b="l")
        self.assertFalse(is_calm(run, Marking.even("numbers")))
        run = run_of("r +c, p -c +a +b, q -a -b")
        self.assertTrue(is_calm(run, Marking.even("numbers")))
        transport = Transport(Marking.even("numbers"), may_send=lambda view, letter: letter != "a" or ("read", "c") in view,
                              may_read=lambda view, letter: letter != "b")
        paper = drive(run, transport)
        self.same((paper[0], paper[1][-1]), ("still", ("wish", "a", "k", "p", "q")))
        self.assertIs(is_drive_paper(run, transport, paper), True)

    def test_what_is_under_way_comes(self):
        # The letters of p to r stay under way in the part, and come at last.
        run = run_of("p +c +d +a, q -a, r -c -d")
        transport = Transport(Marking.even("numbers"), may_read=lambda view, letter: letter not in ("a", "d"))
        word, steps = drive(run, transport)
        self.same(word, "still")
        self.assertTrue({("come", "c"), ("come", "d"), ("come", "a"), ("read", "c")} <= set(steps))

    def test_papers_made_otherwise(self):
        for seed in range(60):
            chance = random.Random(seed)
            run = some_run(chance, 5, "pqr", read=1, kinds=KINDS)
            marking = some_marking(chance)
            if not is_calm(run, marking):
                continue
            left, order = list(run), []
            while left:
                event = chance.choice([one for one in left if not any(run(other, one) for other in left)])
                left.remove(event)
                order.append(event)
            steps = self.steps_of(run, order)
            for transport in (marked(marking), Transport(marking)):
                self.assertIs(is_drive_paper(run, transport, ("made", steps)), True)
                for at in range(0, len(steps), 2):
                    self.assertIs(is_drive_paper(run, transport, ("made", (*steps[:at], *steps[at + 2:]))), False)
                    self.assertIs(is_drive_paper(run, transport, ("made", (*steps[:at], steps[at + 1], *steps[at + 2:]))), False)
                self.assertIs(is_drive_paper(run, transport, ("still", steps)), False)
                self.assertIs(is_drive_paper(run, transport, ("restless", steps)), False)

    def test_plays_that_are_not_direct(self):
        steps = (("wish", "a", "k", "p", "q"), ("send", "a"), ("come", "a"), ("read", "a"))
        self.assertIs(is_drive_paper(ONE, silent(), ("made", steps)), True)
        two = run_of("p +a +b, q -a -b")
        wishes = (("wish", "a", "k", "p", "q"), ("wish", "b", "k", "p", "q"))
        other = (("send", "a"), ("send", "b"), ("come", "a"), ("read", "a"), ("come", "b"), ("read", "b"))
        play = Play(silent(), "p", "q")
        play.do_all((*wishes, *other))
        self.assertEqual(play.run(), two)
        self.assertIs(is_drive_paper(two, silent(), ("made", (*wishes, *other))), False)
        coming = (wishes[0], ("send", "a"), wishes[1], ("send", "b"), ("come", "b"), ("come", "a"), ("read", "a"), ("read", "b"))
        self.assertIs(is_drive_paper(two, silent(), ("made", coming)), False)
        direct = (wishes[0], ("send", "a"), wishes[1], ("send", "b"), ("come", "a"), ("read", "a"), ("come", "b"), ("read", "b"))
        self.assertIs(is_drive_paper(two, silent(), ("made", direct)), True)
        self.assertIs(is_drive_paper(two, silent(), ("made", (*direct, ("wish", "c", "k", "p", "q")))), False)
        self.assertIs(is_drive_paper(two, silent(), ("made", direct[:4])), False)
        # Another run: of other kinds, other names, other processes, in another order.
        for run in (run_of("p +a +b, q -a -b", a="l"), run_of("p +a +c, q -a -c"), run_of("p +a +b, q -b -a")):
            self.assertIs(is_drive_paper(run, silent(), ("made", direct)), False)
        self.assertIs(is_drive_paper(Run(two.letters, {**two.rows, "r": ()}), silent(), ("made", direct)), True)

    def test_still_papers(self):
        stuck = Transport(Marking(), may_read=lambda view, letter: letter != "a")
        wish, far = ("wish", "a", "k", "p", "q"), ("wish", "b", "k", "q", "p")
        still = (wish, ("send", "a"), ("come", "a"))
        self.assertIs(is_drive_paper(ONE, stuck, ("still", still)), True)
        self.assertIs(is_drive_paper(ONE, stuck, ("still", (far, ("send", "b"), ("come", "b"), ("read", "b"), *still))), True)
        for steps in ((), still[:1], still[:2], (*still, ("read", "a")), (*still, far), (*still, still[-1]), list(still), still[1:],
                      (*still, ("wish", "c", "k", "p", "r")), ("still",), (5,), (still,)):
            self.assertIs(is_drive_paper(ONE, stuck, ("still", steps)), False)
        # A play of the run's processes alone.
        self.assertIs(is_drive_paper(ONE, stuck, ("still", (("wish", "a", "k", "r", "q"), *still[1:]))), False)
        # It makes this run, so that no still play shows that it does not.
        picky = Transport(Marking(), may_read=lambda view, letter: letter != "b")
        steps = (far, ("send", "b"), ("come", "b"))
        self.assertIs(is_drive_paper(ONE, picky, ("still", steps)), False)
        self.assertIs(is_drive_paper(run_of("q +b, p -b"), picky, ("still", steps)), True)
        self.assertIs(is_drive_paper(run_of("q +c +b, p -c -b"), picky, ("still", steps)), True)

    def test_values_of_any_kind(self):
        for value in VALUES:
            for part in (value, ("made", value), ("still", value), (value, ()), ("restless", value), ("made", (), value), ("made", (value,)),
                         ("still", (value,)), ["made", ()]):
                self.assertIs(is_drive_paper(ONE, silent(), part), False)
                self.assertIs(is_drive_paper(ONE, EAGER, part), False)
                self.assertIs(is_beat_paper(Rule(STALE), silent(), part), False)
                self.assertIs(is_beat_paper(Rule(STALE), EAGER, part), False)
        empty = Run({}, {"p": ()})
        for one in (silent(), EAGER):
            self.same(drive(empty, one), ("made", ()))
            self.assertIs(is_drive_paper(empty, one, ("made", ())), True)
            self.assertIs(is_drive_paper(empty, one, ("still", ())), False)


class TalkerTests(Case):
    def test_made(self):
        for seed in range(60):
            run = some_run(random.Random(seed), 1 + seed % 5, "pqr", read=1)
            for talker in (EAGER, Talker.asking()):
                if not is_in(run, "single"):
                    self.fails(InvalidOperation, drive, run, talker)
                    self.fails(InvalidOperation, is_drive_paper, run, talker, ("made", ()))
                    continue
                word, moves = paper = drive(run, talker)
                self.same(word, "made")
                self.assertIs(is_drive_paper(run, talker, paper), True)
                play = TalkPlay(talker, *run.processes)
                wished = []
                for move in moves:
                    if move[0] == "wish":
                        self.assertTrue(play.is_quiet())
                        wished.append(move[1])
                    play.do(move)
                self.assertTrue(play.is_quiet())
                self.assertEqual((play.run(), sorted(wished)), (run, sorted(run.letters)))
                self.assertIsNotNone(letter_row(run))

    def test_other_plays_that_make_a_run(self):
        run = run_of("p +a +b, q -a -b")
        moves = (("wish", "a", "k", "p", "q"), ("wish", "b", "k", "p", "q"), ("act", "p"), ("act", "p"), ("come", "a"), ("act", "q"),
                 ("come", "b"), ("act", "q"))
        self.assertIs(is_drive_paper(run, EAGER, ("made", moves)), True)
        self.assertIs(is_drive_paper(run, EAGER, ("made", moves[:-1])), False)
        # It has this run, but is not quiet: a letter is wished, or a word is under way, or there is an act.
        self.assertIs(is_drive_paper(run, EAGER, ("made", (*moves, ("wish", "c", "k", "p", "q")))), False)
        one = (("wish", "a", "k", "p", "q"), ("act", "p"), ("come", "a"), ("act", "q"))
        self.assertIs(is_drive_paper(ONE, EAGER, ("made", one)), True)
        self.assertIs(is_drive_paper(ONE, RESTLESS, ("made", one)), False)
        self.assertIs(is_drive_paper(ONE, RESTLESS, ("made", (*one, ("act", "p")))), False)
        self.assertIs(is_drive_paper(run, EAGER, ("made", list(moves))), False)
        self.assertIs(is_drive_paper(run, EAGER, ("still", moves)), False)
        self.assertIs(is_drive_paper(run, EAGER, ("restless", moves), most=6), False)
        self.assertIs(is_drive_paper(ONE, EAGER, ("made", moves)), False)
        # The plays have the processes of the run, whatever happens there.
        self.assertIs(is_drive_paper(Run(run.letters, {**run.rows, "r": ()}), EAGER, ("made", moves)), True)

    def test_still(self):
        for run, talker, moves in ((ONE, DEAF, (("wish", "a", "k", "p", "q"), ("act", "p"), ("come", "a"))),
                                   (ONE, Talker(lambda view: None), (("wish", "a", "k", "p", "q"),))):
            self.same(drive(run, talker), ("still", moves))
            self.assertIs(is_drive_paper(run, talker, ("still", moves)), True)
            for others_ in (moves[:-1], (*moves, moves[-1]), moves[1:], (*moves, ("act", "p"))):
                self.assertIs(is_drive_paper(run, talker, ("still", others_)), False)
            self.assertIs(is_drive_paper(run, talker, ("made", moves)), False)
            self.assertIs(is_drive_paper(run, talker, ("restless", moves)), False)
        # A talker that makes the run, and stands still in another play: there are papers of both forms.
        half = Talker(lambda view: None if len([item for item in view if item[0] == "wish"]) > 1 else eager(view))
        self.same(drive(ONE, half)[0], "made")
        wishes = (("wish", "x", "k", "p", "q"), ("wish", "y", "k", "p", "q"))
        self.assertIs(is_drive_paper(ONE, half, ("still", wishes)), True)
        self.same(drive(TALK, half)[0], "still")

    def test_restless(self):
        for most in (1, 2, 3, 10, 1000):
            word, moves = paper = drive(ONE, RESTLESS, most=most)
            self.same((word, len(moves), moves[0][0]), ("restless", most + 1, "wish"))
            self.assertIs(is_drive_paper(ONE, RESTLESS, paper, most=most), True)
            self.assertIs(is_drive_paper(ONE, RESTLESS, paper, most=most + 1), False)
            self.assertIs(is_drive_paper(ONE, RESTLESS, ("restless", moves[:-1]), most=most), False)
            for other in ("made", "still"):
                self.assertIs(is_drive_paper(ONE, RESTLESS, (other, moves), most=most), False)
        self.assertEqual(drive(ONE, RESTLESS), drive(ONE, RESTLESS, most=1000))
        self.assertIs(is_drive_paper(ONE, RESTLESS, drive(ONE, RESTLESS)), True)
        for most in (999, 1001):
            self.assertIs(is_drive_paper(ONE, RESTLESS, drive(ONE, RESTLESS, most=most)), False)
        for word in ("broken", "moving", "", None, ("restless",)):
            self.assertIs(is_drive_paper(ONE, RESTLESS, (word, drive(ONE, RESTLESS)[1])), False)
        # A second wish: so many moves stand behind this one.
        moves = (("wish", "a", "k", "p", "q"), ("act", "p"), ("wish", "b", "k", "p", "q"), ("act", "p"), ("act", "p"))
        self.assertIs(is_drive_paper(ONE, RESTLESS, ("restless", moves), most=2), True)
        for most in (1, 3, 4):
            self.assertIs(is_drive_paper(ONE, RESTLESS, ("restless", moves), most=most), False)
        self.assertIs(is_drive_paper(ONE, RESTLESS, ("restless", ()), most=1), False)

    def test_exactly_enough_moves(self):
        self.same((drive(ONE, EAGER, most=3)[0], drive(ONE, EAGER, most=2)[0]), ("made", "restless"))
        self.same((drive(ONE, Talker.asking(), most=7)[0], drive(ONE, Talker.asking(), most=6)[0]), ("made", "restless"))
        self.same(drive(TALK, EAGER, most=3)[0], "made")
        self.assertIs(is_drive_paper(ONE, EAGER, drive(ONE, EAGER, most=2), most=2), True)
        moves = drive(ONE, EAGER)[1]
        self.assertIs(is_drive_paper(ONE, EAGER, ("restless", moves), most=3), False)
        self.same(len(drive(ONE, RESTLESS, most=10000)[1]), 10001)

    def test_errors_of_talkers(self):
        for error, talker in ((Failure, Talker(fail)), (InvalidOperation, Talker(lambda view: 5)),
                              (InvalidOperation, Talker(lambda view: ("read", "a")))):
            self.fails(error, drive, ONE, talker)
            self.fails(error, beat, NEVER, talker)
            moves = (("wish", "a", "k", "p", "q"), ("act", "p"))
            for word in ("made", "still", "restless"):
                self.fails(error, is_drive_paper, ONE, talker, (word, moves))
            self.fails(error, is_beat_paper, NEVER, talker, ("still", moves))


class BeatTests(Case):
    def check(self, rule, transport, paper, most=1000):
        self.assertIs(is_beat_paper(rule, transport, paper, most=most), True)
        word, steps = paper
        wishes = [step for step in steps if step[0] == "wish"]
        processes = sorted({name for wish in wishes for name in wish[3:]})
        if isinstance(transport, Talker):
            play = TalkPlay(transport, *processes)
        else:
            play = Play(transport, *processes)
        play.do_all(steps)
        self.same((play.is_quiet(), play.is_still()), (word == "broken", word == "still"))
        if word == "broken":
            self.assertTrue(breaks(play.run(), rule))
        for other in {"broken", "still", "restless"} - {word}:
            self.assertIs(is_beat_paper(rule, transport, (other, steps), most=most), False)

    def test_lesser_markings(self):
        found = {"broken": 0, "still": 0}
        for at, pattern in enumerate((CROSS, OVERTAKE, STALE, *many_patterns(5, 40, kinds=(None, ("k",), ("l", "m")), most=4))):
            rule = Rule(pattern)
            chance = random.Random(at)
            least = least_markings(rule)
            for marking in (Marking(), Marking.even("numbers"), Marking.even("notes"), some_marking(chance), *least):
                if keeps(rule, marking):
                    for transport in (marked(marking), moody(at, marking, 20)):
                        self.fails(InvalidOperation, beat, rule, transport)
                    continue
                paper = beat(rule, marked(marking))
                self.same(paper[0], "broken")
                self.check(rule, marked(marking), paper)
                for seed in range(3):
                    transport = moody(seed, marking, 15)
                    paper = beat(rule, transport)
                    found[paper[0]] += 1
                    self.check(rule, transport, paper)
        self.assertGreater(min(found.values()), 10)

    def test_talkers(self):
        crossed = Rule(CROSS.with_group(("send", "x"), ("read", "y")).without_condition(("send", "x"), ("read", "y")))
        for rule in (NEVER, Rule(Pattern(x=None, y=("k",), conditions=((("send", "x"), ("send", "y")),))), crossed):
            for talker, word in ((EAGER, "broken"), (Talker.asking(), "broken"), (DEAF, "still"), (RESTLESS, "restless")):
                if answer(rule) == "never":
                    paper = beat(rule, talker)
                    self.same(paper[0], word)
                    self.check(rule, talker, paper)
                    self.same(paper[1] == () or paper[1][0][0] == "wish", True)
                else:
                    self.fails(InvalidOperation, beat, rule, talker)
        for rule in (Rule(CROSS), Rule(STALE), Rule(OVERTAKE, CROSS)):
            self.fails(InvalidOperation, beat, rule, Talker.asking())
            self.assertIsNone(breaking_paper(rule, "single"))

    def test_most(self):
        for most in (1, 5, 50):
            paper = beat(NEVER, RESTLESS, most=most)
            self.same((paper[0], len(paper[1])), ("restless", most + 1))
            self.check(NEVER, RESTLESS, paper, most)
            self.assertIs(is_beat_paper(NEVER, RESTLESS, paper, most=most + 1), False)
        self.same((beat(NEVER, EAGER, most=3)[0], beat(NEVER, EAGER, most=2)[0]), ("broken", "restless"))
        self.assertIs(is_beat_paper(NEVER, RESTLESS, beat(NEVER, RESTLESS)), True)
        for most in (999, 1001):
            self.assertIs(is_beat_paper(NEVER, RESTLESS, beat(NEVER, RESTLESS, most=most)), False)
        for word in ("made", "moving", "", None):
            self.assertIs(is_beat_paper(NEVER, RESTLESS, (word, beat(NEVER, RESTLESS)[1])), False)

    def test_papers_of_other_rules(self):
        paper = beat(Rule(STALE), numbered())
        self.assertIs(is_beat_paper(Rule(STALE, OVERTAKE), numbered(), paper), True)
        self.assertIs(is_beat_paper(Rule(OVERTAKE), numbered(), paper), False)
        self.assertIs(is_beat_paper(Rule(OVERTAKE), silent(), paper), False)
        self.assertIs(is_beat_paper(Rule(STALE), silent(), paper), True)
        self.assertIs(is_beat_paper(Rule(STALE), noted(), paper), False)
        # A marking that keeps the rule, and a rule that talkers can keep: still plays beat them all the same.
        stuck = Transport(Marking.even("notes"), may_send=lambda view, letter: False)
        self.assertIs(is_beat_paper(Rule(STALE), stuck, ("still", (("wish", "a", "k", "p", "q"),))), True)
        self.assertIs(is_beat_paper(Rule(CROSS), DEAF, ("still", (("wish", "a", "k", "p", "q"), ("act", "p"), ("come", "a")))), True)
        self.assertIs(is_beat_paper(Rule(CROSS), RESTLESS, ("restless", (("wish", "a", "k", "p", "q"), ("act", "p"))), most=1), True)
        self.assertIs(is_beat_paper(Rule(CROSS), silent(), ("restless", (("wish", "a", "k", "p", "q"), ("send", "a"))), most=1), False)
        crossing = (("wish", "a", "k", "p", "q"), ("wish", "b", "k", "q", "p"), ("act", "p"), ("act", "q"), ("come", "a"), ("come", "b"),
                    ("act", "p"), ("act", "q"))
        self.assertIs(is_beat_paper(Rule(CROSS), EAGER, ("broken", crossing)), True)
        self.assertIs(is_beat_paper(Rule(STALE), EAGER, ("broken", crossing)), False)
        self.assertIs(is_beat_paper(Rule(CROSS), EAGER, ("broken", crossing[:-1])), False)

    def test_plays_that_are_not_direct(self):
        steps = (("wish", "b", "report", "p", "q"), ("wish", "a", "order", "p", "q"), ("send", "a"), ("send", "b"), ("come", "a"),
                 ("come", "b"), ("read", "b"), ("read", "a"))
        self.assertIs(is_beat_paper(Rule(STALE), silent(), ("broken", steps)), True)
        self.assertIs(is_beat_paper(Rule(STALE), silent(), ("broken", steps[:-1])), False)
        self.assertIs(is_beat_paper(Rule(STALE), silent(), ("broken", (*steps, ("wish", "c", "k", "p", "q")))), False)

    def test_more_processes_than_a_play_has(self):
        names = new_names(60)
        for many, wanted in ((20, True), (21, False)):
            steps = tuple(("wish", names[at], "k", names[2 * at], names[2 * at + 1]) for at in range(many))
            stuck = Transport(Marking(), may_send=lambda view, letter: False)
            self.assertIs(is_beat_paper(NEVER, stuck, ("still", steps)), wanted)
            self.assertIs(is_beat_paper(NEVER, Talker(lambda view: None), ("still", steps)), wanted)

    def test_processes_are_those_of_the_wishes(self):
        stuck = Transport(Marking(), may_send=lambda view, letter: False)
        for wish in (("wish", "a", "k", "p", "p"), ("wish", "a", "k", "p"), ("wish", "a", "K", "p", "q"), ("wish", "a", "k", ["p"], "q")):
            self.assertIs(is_beat_paper(NEVER, stuck, ("still", (wish,))), False)
            self.assertIs(is_beat_paper(NEVER, stuck, ("still", (("wish", "b", "k", "p", "q"), wish))), False)
        self.assertIs(is_beat_paper(NEVER, stuck, ("still", (("wish", "b", "k", "yy", "zz"),))), True)


class ErrorTests(Case):
    def test_runs(self):
        unread = run_of("p +a +b, q -a")
        for value in (*others(Run), unread):
            for transport in (silent(), EAGER, 5):
                self.fails(InvalidRun, drive, value, transport, most=0)
                self.fails(InvalidRun, is_drive_paper, value, transport, 5, most=0)

    def test_rules(self):
        for value in others(Rule):
            for transport in (silent(), EAGER, 5):
                self.fails(InvalidRule, beat, value, transport, most=0)
                self.fails(InvalidRule, is_beat_paper, value, transport, 5, most=0)

    def test_transports(self):
        for value in others(Transport, Talker):
            self.fails(InvalidTransport, drive, LAST, value, most=0)
            self.fails(InvalidTransport, is_drive_paper, LAST, value, 5, most=0)
            self.fails(InvalidTransport, beat, Rule(STALE), value, most=0)
            self.fails(InvalidTransport, is_beat_paper, Rule(STALE), value, 5, most=0)

    def test_most(self):
        for value in (*others(int), 0, -1, 10001, HUGE, True, False):
            for transport in (noted(), EAGER):
                self.fails_with(InvalidNumber, value, drive, LAST, transport, most=value)
                self.fails_with(InvalidNumber, value, is_drive_paper, LAST, transport, 5, most=value)
                self.fails_with(InvalidNumber, value, beat, Rule(STALE), transport, most=value)
                self.fails_with(InvalidNumber, value, is_beat_paper, Rule(STALE), transport, 5, most=value)
        for most in (1, 10000):
            self.same(drive(LAST, silent(), most=most)[0], "made")

    def test_runs_that_cannot_be_driven(self):
        for value in (5, ("made", ()), None):
            for transport in (noted(), marked(Marking(report="notes", other="numbers")), EAGER, Talker.asking()):
                self.fails(InvalidOperation, drive, LAST, transport)
                self.fails(InvalidOperation, is_drive_paper, LAST, transport, value)

    def test_errors_of_transports(self):
        for error, transport in ((Failure, Transport(Marking(), may_send=fail)), (Failure, Transport(Marking(), may_read=fail)),
                                 (InvalidOperation, Transport(Marking(), may_send=lambda view, letter: None)),
                                 (Failure, Transport(Marking.even("numbers"), number=fail)),
                                 (InvalidOperation, Transport(Marking.even("numbers"), number=lambda *parts: fail))):
            self.fails(error, drive, ONE, transport)
            self.fails(error, beat, Rule(STALE), transport)
            steps = (("wish", "a", "order", "p", "q"), ("send", "a"), ("come", "a"), ("read", "a"))
            self.fails(error, is_drive_paper, ONE, transport, ("made", steps))
            self.fails(error, is_beat_paper, Rule(STALE), transport, ("broken", steps))
            self.assertIs(is_beat_paper(Rule(STALE), transport, ("broken", 5)), False)


if __name__ == "__main__":
    unittest.main()
