"""[0.4], [0.17], [0.18]: the error of each parameter, alone and with those behind it; and what calls leave unchanged."""

import itertools
import types
import unittest

from letterrules.answers import answers, follows
from letterrules.base.letters import new_names, other_event
from letterrules.base.orders import Order, is_ring, ring_of
from letterrules.desk.desk import Desk
from letterrules.desk.shell import Shell
from letterrules.drive import drivers
from letterrules.errors import (
    InvalidMarking, InvalidName, InvalidNumber, InvalidOperation, InvalidOrder, InvalidPattern, InvalidRule, InvalidRun, InvalidTransport,
    NothingToUndo, ParseError, UnknownName,
)
from letterrules.marks import known, least
from letterrules.marks.known import Marking
from letterrules.own import orders, ownruns
from letterrules.own.orders import OwnOrder
from letterrules.plays import standard
from letterrules.plays.plays import Play, Transport
from letterrules.plays.talkers import Talker, TalkPlay
from letterrules.rules import breaks, patterns
from letterrules.rules.patterns import Pattern, Rule
from letterrules.runs import runs, sets
from letterrules.runs.runs import Run
from letterrules.text import formats
from letterrules.watch import watchers
from letterrules.watch.watchers import Watcher
from support import CROSS, LAST, OVERTAKE, STALE, VALUES, Case, others, run_of

ORDER = OwnOrder(STALE, ((("read", "y"), ("read", "x")),))
ROW = ((("read", "y"), ("read", "x")),)
PART = run_of("p +a +b, q -a")
SINGLE = run_of("p +a -c +b, q -a +c -b")


def wrong(*classes, but=()):
    """Values that are none of some classes, and none of some values."""
    return [value for value in others(*classes) if value not in but]


# For each name of a parameter: a good value, and pairs of an error with the values that are wrong.
RUNS = ((InvalidRun, wrong(Run)),)
WHOLE = ((InvalidRun, [*wrong(Run), PART]),)
WHOLE_LATER = ((InvalidRun, wrong(Run)), (InvalidOperation, [PART]))
PATTERNS = ((InvalidPattern, wrong(Pattern)),)
RULES = ((InvalidRule, wrong(Rule)),)
MARKINGS = ((InvalidMarking, wrong(Marking)),)
ORDERS = ((InvalidOrder, wrong(OwnOrder)),)
AMONG = ((InvalidOperation, wrong(but=sets.SETS)),)
ROWS = ((InvalidOperation, wrong()),)
TRANSPORTS = ((InvalidTransport, wrong(Transport)),)
DRIVEN = ((InvalidTransport, wrong(Transport, Talker)),)
TALKERS = ((InvalidTransport, wrong(Talker)),)
MOST = ((InvalidNumber, [*wrong(int), True, False, 0, -1, 10001]),)
PLACING = ((InvalidOperation, wrong()),)
PROCESS = ((UnknownName, wrong(but=("p", "q", "r"))),)
PLACE = ((InvalidNumber, [*wrong(int), True, False, 5, -1]),)
EVENT = ((UnknownName, wrong(but=(("send", "a"),))),)
LETTER = ((UnknownName, wrong(but=("a", "b", "c"))),)
NAMES = ((InvalidName, [*wrong(str), "", "A", "a b", "abcdefghi"]),)
ANY = ()

# Each call: what is called, the good values with the wrong ones by position, and those by keyword.
CALLS = [
    (other_event, [(("send", "a"), ((InvalidName, wrong(but=(("send", "a"),))),))], {}),
    (new_names, [(3, ((InvalidNumber, [*wrong(int), True, False, -1, 501]),))], {"without": (("a",), ((InvalidName, wrong(tuple)),))}),
    (ring_of, [(("a",), ((InvalidOrder, wrong(tuple)),)), ((), ((InvalidOrder, wrong(tuple)),))], {}),
    (is_ring, [(("a",), ((InvalidOrder, wrong(tuple)),)), ((), ((InvalidOrder, wrong(tuple)),)), (5, ANY)], {}),
    (runs.event_orders, [(SINGLE, RUNS)], {}),
    (runs.is_event_order, [(LAST, RUNS), (5, ANY)], {}),
    *[(action, [(LAST, WHOLE_LATER)], {}) for action in (sets.set_of, sets.late_letters, sets.all_pairs, sets.shortest_crown, sets.letter_row)],
    *[(action, [(LAST, WHOLE_LATER), ("pairs", AMONG)], {}) for action in (sets.is_in, sets.bar)],
    (sets.is_bar, [(LAST, WHOLE_LATER), ("pairs", AMONG), (5, ANY)], {}),
    (sets.next_bar, [(LAST, WHOLE_LATER), ("causal", AMONG), (("a", ("send", "b")), ((InvalidOperation, wrong()),))], {}),
    (sets.is_letter_row, [(LAST, WHOLE_LATER), (5, ANY)], {}),
    (patterns.arrangements, [(STALE, PATTERNS)], {}),
    (patterns.is_arrangement, [(STALE, PATTERNS), (5, ANY)], {}),
    (breaks.placings, [(LAST, RUNS), (STALE, PATTERNS)], {}),
    (breaks.is_placing, [(LAST, RUNS), (STALE, PATTERNS), (5, ANY)], {}),
    *[(action, [(LAST, RUNS), (Rule(STALE), RULES)], {}) for action in (breaks.breaks, breaks.first_break, breaks.broken_patterns, breaks.blamed)],
    (breaks.arrangement_of, [(LAST, RUNS), (STALE, PATTERNS), ({"x": "a", "y": "c"}, PLACING)], {}),
    (OwnOrder, [(STALE, PATTERNS), (ROW, ROWS)], {}),
    (orders.own_orders, [(STALE, PATTERNS)], {}),
    (orders.ring_in, [(STALE, PATTERNS), (ROW, ROWS)], {}),
    (orders.is_ring_in, [(STALE, PATTERNS), (ROW, ROWS), (5, ANY)], {}),
    *[(action, [(ORDER, ORDERS)], {}) for action in (orders.pair_in, orders.late_in, orders.crown_in)],
    *[(action, [(ORDER, ORDERS), (5, ANY)], {}) for action in (orders.is_pair_in, orders.is_late_in, orders.is_crown_in, ownruns.is_own_run)],
    (ownruns.own_run, [(ORDER, ORDERS)], {"kinds": (None, ((InvalidOperation, [*wrong(dict, type(None)), {"z": "k"}, {"x": "k"}]),)),
                                          "helper": ("other", NAMES)}),
    (ownruns.own_runs, [(Rule(STALE), RULES), ("all", AMONG)], {}),
    (ownruns.held_order, [(LAST, RUNS), (STALE, PATTERNS), ({"x": "a", "y": "c"}, PLACING)], {}),
    (ownruns.is_held, [(LAST, RUNS), (ORDER, ORDERS), (5, ANY)], {}),
    *[(action, [(Rule(STALE), RULES)], {}) for action in (answers.answer, answers.answer_paper, answers.hardest, least.least_markings)],
    *[(action, [(STALE, PATTERNS)], {}) for action in (answers.pattern_answer, answers.needed, answers.answers_without, follows.idle_conditions)],
    *[(action, [(Rule(STALE), RULES), ("all", AMONG)], {}) for action in (answers.kept_paper, answers.breaking_paper)],
    *[(action, [(Rule(STALE), RULES), ("all", AMONG), (5, ANY)], {}) for action in (answers.is_kept_paper, answers.is_breaking_paper)],
    (answers.is_answer_paper, [(Rule(STALE), RULES), (5, ANY)], {}),
    (answers.sort_for, [("all", AMONG)], {}),
    (answers.set_for, [("notes", ((InvalidOperation, wrong()),))], {}),
    (follows.cases, [(STALE, PATTERNS)], {"among": ("all", AMONG)}),
    (follows.maps, [(STALE, PATTERNS), (STALE, PATTERNS), (ROW, ROWS), (("order", "report"), ((InvalidOperation, wrong()),))], {}),
    *[(action, [(Rule(STALE), RULES), (Rule(CROSS), RULES)], {"among": ("all", AMONG)})
      for action in (follows.follows, follows.are_alike, follows.follow_paper)],
    (follows.is_follow_paper, [(Rule(STALE), RULES), (Rule(CROSS), RULES), (5, ANY)], {"among": ("all", AMONG)}),
    (follows.core, [(Rule(STALE), RULES)], {"among": ("all", AMONG)}),
    (follows.is_core, [(Rule(STALE), RULES), (5, ANY)], {"among": ("all", AMONG)}),
    (known.known, [(LAST, RUNS), (Marking(), MARKINGS), ("p", PROCESS), (0, PLACE)], {}),
    (known.trail, [(LAST, RUNS), (Marking(), MARKINGS), ("a", LETTER), ("p", PROCESS), (0, PLACE)], {}),
    (known.is_trail, [(LAST, RUNS), (Marking(), MARKINGS), ("a", LETTER), ("p", PROCESS), (0, PLACE), (5, ANY)], {}),
    *[(action, [(LAST, RUNS), (Marking(), MARKINGS)], {}) for action in (known.is_calm, known.uncalm)],
    (known.is_uncalm, [(LAST, RUNS), (Marking(), MARKINGS), (5, ANY)], {}),
    (least.ways, [(ORDER, ORDERS)], {}),
    (least.is_way, [(ORDER, ORDERS), (5, ANY)], {}),
    (least.demand, [(ORDER, ORDERS), (("late", "x"), ((InvalidOperation, wrong()),))], {}),
    *[(action, [(Rule(STALE), RULES), (Marking(), MARKINGS)], {}) for action in (least.keeps, least.keeping_paper, least.breaking_run)],
    *[(action, [(Rule(STALE), RULES), (Marking(), MARKINGS), (5, ANY)], {}) for action in (least.is_keeping_paper, least.is_breaking_run)],
    (least.cheapest, [(Rule(STALE), RULES), ({"other": (1, 2), "order": (0, 0), "report": (1, 1)}, ((InvalidOperation, wrong()),))], {}),
    (Transport, [(Marking(), MARKINGS)], {name: (None, ((InvalidOperation, [0, True, "a", (), [], {}, {"a": len}, (len,)]),))
                                          for name in ("may_send", "may_read", "number", "note")}),
    (Play, [(standard.silent(), TRANSPORTS), ("p", NAMES), ("q", NAMES)], {}),
    (Play.of, [(standard.silent(), TRANSPORTS), (("p", "q"), ((InvalidName, wrong(tuple)),))], {}),
    (standard.marked, [(Marking(), MARKINGS)], {}),
    *[(action, [(standard.silent(), TRANSPORTS), (LAST, WHOLE)], {}) for action in (standard.played, standard.first_held)],
    (standard.blocking, [((("at", "q"), ("come", "a", "k", "p", None)), ANY), ("a", ((UnknownName, wrong(but=("a",))),))], {}),
    (Talker, [(len, ((InvalidTransport, [0, True, None, "a", (), [], {}, {"a": len}, (len,)]),))], {}),
    (TalkPlay, [(Talker.asking(), TALKERS), ("p", NAMES), ("q", NAMES)], {}),
    (TalkPlay.of, [(Talker.asking(), TALKERS), (("p", "q"), ((InvalidName, wrong(tuple)),))], {}),
    (drivers.drive, [(LAST, WHOLE), (standard.silent(), DRIVEN)], {"most": (5, MOST)}),
    (drivers.drive, [(SINGLE, WHOLE), (Talker.asking(), DRIVEN)], {"most": (7, MOST)}),
    (drivers.is_drive_paper, [(LAST, WHOLE), (standard.silent(), DRIVEN), (5, ANY)], {"most": (5, MOST)}),
    (drivers.seen_part, [(LAST, WHOLE), (Marking(), MARKINGS), (("send", "a"), EVENT)], {}),
    (drivers.beat, [(Rule(STALE), RULES), (standard.silent(), DRIVEN)], {"most": (5, MOST)}),
    (drivers.is_beat_paper, [(Rule(STALE), RULES), (Talker.asking(), DRIVEN), (5, ANY)], {"most": (5, MOST)}),
    (watchers.completions, [(LAST, RUNS)], {"among": ("all", AMONG)}),
    (watchers.watch_paper, [(LAST, RUNS), (Rule(STALE), RULES)], {"among": ("all", AMONG)}),
    (watchers.is_watch_paper, [(LAST, RUNS), (Rule(STALE), RULES), (5, ANY)], {"among": ("all", AMONG)}),
    (Watcher, [(Rule(STALE), RULES)], {"among": ("all", AMONG)}),
    (formats.format_pattern, [(STALE, PATTERNS)], {}), (formats.format_rule, [(Rule(STALE), RULES)], {}),
    (formats.format_run, [(LAST, RUNS)], {}), (formats.format_marking, [(Marking(), MARKINGS)], {}),
    (formats.format_placing, [({"x": "a"}, ((InvalidOperation, wrong(but=({"a": "b"},))),))], {}),
    (formats.format_steps, [((), ((InvalidOperation, wrong(but=((), (("send", "a"),)))),))], {}),
    *[(action, [(text, ((ParseError, wrong(but=("",))),))], {}) for action, text in (
        (formats.parse_pattern, "x * | - | -"), (formats.parse_rule, "x * | - | -"), (formats.parse_run, ""),
        (formats.parse_marking, "other notes"), (formats.parse_placing, "x = a"), (formats.parse_steps, ""))],
    (Desk.of, [({}, ((InvalidRule, wrong(dict)),))], {}),
    (Desk(), [(LAST, RUNS)], {}),
    (Shell.of_log, [((), ((InvalidOperation, wrong(but=((),))),))], {}),
]


def run_call(action, parts, more):
    """Call, and take the first value if there is a generator."""
    found = action(*parts, **more)
    if isinstance(found, types.GeneratorType):
        next(found, None)


class CallTests(Case):
    def test_good_calls(self):
        for action, rows, more in CALLS:
            run_call(action, [good for good, _ in rows], {name: good for name, (good, _) in more.items()})

    def test_each_wrong_value_alone(self):
        for action, rows, more in CALLS:
            for at, (_, kinds) in enumerate([*rows, *more.values()]):
                for error, values in kinds:
                    for value in values:
                        self.check(action, rows, more, {at: value}, error)

    def test_two_and_more_at_once(self):
        """The error of the first wrong one counts; parameters by keyword come last."""
        for action, rows, more in CALLS:
            parts = [*rows, *more.values()]
            with_errors = [at for at, (_, kinds) in enumerate(parts) if kinds]
            for many in range(2, len(with_errors) + 1):
                for places in itertools.combinations(with_errors, many):
                    for shift in range(3):
                        chosen = {}
                        for at in places:
                            error, values = parts[at][1][-1] if shift == 2 and len(parts[at][1]) > 1 else parts[at][1][0]
                            chosen[at] = values[(7 * shift + 3 * at) % len(values)]
                            first = error if at == places[0] else first
                        if not self.is_later(parts, places[0], first):
                            self.check(action, rows, more, chosen, first)

    def is_later(self, parts, at, error):
        """Whether the error is that of an unread letter of a run, which some functions look for later."""
        return error is InvalidOperation and isinstance(parts[at][0], Run) and parts[at][1] is WHOLE_LATER and at > 0

    def check(self, action, rows, more, chosen, error):
        values = [chosen.get(at, good) for at, (good, _) in enumerate([*rows, *more.values()])]
        keywords = dict(zip(more, values[len(rows):]))
        found = self.fails(error, run_call, action, values[:len(rows)], keywords)
        if error in (UnknownName, InvalidNumber):
            (kept,) = vars(found).values()
            self.assertIs(kept, chosen[min(chosen)])

    def test_generators_raise_with_their_first_value(self):
        seen = 0
        for action, rows, more in CALLS:
            good = action(*[part for part, _ in rows], **{name: part for name, (part, _) in more.items()})
            if isinstance(good, types.GeneratorType):
                seen += 1
                for value in VALUES:
                    if not isinstance(value, type(rows[0][0])):
                        later = action(value, *[part for part, _ in rows[1:]])
                        self.fails(rows[0][1][0][0], next, later)
                        self.same(list(later), [])
        self.same(seen, 9)


class UnchangedTests(Case):
    """A call that raises an error changes nothing; nor do calls change what they are given."""

    def test_objects_stay(self):
        wish = ("wish", "a", "k", "p", "q")
        play, talk = Play(standard.silent(), "p", "q"), TalkPlay(Talker.asking(), "p", "q")
        watcher, desk, shell = Watcher(Rule(OVERTAKE)), Desk(a=Rule(STALE)), Shell()
        play.do(wish)
        talk.do(wish)
        watcher.send("a", "k", "p", "q")
        desk.choose(Marking(k="notes"))
        shell.do("mark other notes")
        calls = (
            (play.do, 1), (play.do_all, 1), (play.send, 1), (play.come, 1), (play.read, 1), (play.view, 1), (play.mark, 1),
            (talk.do, 1), (talk.do_all, 1), (talk.view, 1), (watcher.read, 1), (watcher.with_rule, 1), (watcher.undo, 1),
            (desk.drop, 1), (desk.choose, 1), (desk.undo, 1), (desk.redo, 1), (desk.joined, 1), (desk, 1), (shell.do, 1),
            (play.wish, 4), (watcher.send, 4), (desk.put, 2),
        )
        kept = [one.twin() for one in (play, talk, watcher, desk)]
        for action, many in calls:
            for value in VALUES:
                with desk.trial(), play.trial(), talk.trial(), watcher.trial():
                    before = [one.twin() for one in (play, talk, watcher, desk)]
                    log = shell.log
                    try:
                        action(*[value] * many)
                    except Exception as error:
                        self.assertTrue(type(error).__module__ == "letterrules.errors", (action, value, error))
                        self.assertEqual([play, talk, watcher, desk], before)
                        self.same((desk.steps, shell.log, watcher.since), (before[3].steps, log, before[2].since))
        self.assertEqual([play, talk, watcher, desk], kept)

    def test_wrong_numbers(self):
        play, talk = Play(standard.silent(), "p", "q"), TalkPlay(Talker.asking(), "p", "q")
        watcher, desk = Watcher(Rule(OVERTAKE)), Desk()
        for action in (play.back, talk.back, watcher.undo, desk.undo, desk.redo):
            for value in (*wrong(int), True, False, -1):
                self.fails_with(InvalidNumber, value, action, many=value)
            self.fails_with(NothingToUndo, 1, action, many=1)
            action(many=0)

    def test_what_is_passed_and_returned(self):
        words, rules, letters = {"k": "notes"}, {"a": Rule(STALE)}, {"x": None}
        marking, desk, pattern = Marking.of(words), Desk.of(rules), Pattern.of(letters, (), ())
        for one in (words, rules, letters):
            one.clear()
        self.same((marking["k"], desk.names, list(pattern)), ("notes", ("a",), ["x"]))
        for one in (LAST.letters, LAST.rows, STALE.letters, Play(standard.silent()).letters, watchers.watch_paper(LAST, Rule(CROSS))[2]):
            one.clear()
        self.same((len(LAST.letters), len(LAST.rows), len(STALE.letters)), (3, 3, 2))
        placing, text = {"y": "c", "x": "a"}, "x = a, y = c"
        self.same((formats.format_placing(placing), list(placing)), (text, ["y", "x"]))
        first = formats.parse_placing(text)
        first.clear()
        self.same(formats.parse_placing(text), {"x": "a", "y": "c"})

    def test_what_cannot_be_iterated(self):
        for one in (standard.silent(), Talker.asking(), Watcher(Rule(CROSS)), Shell()):
            self.fails(TypeError, iter, one)
        for one in (Order(("a",)), LAST, STALE, Rule(STALE), ORDER, Marking(), Play(standard.silent()), TalkPlay(Talker.asking()), Desk()):
            self.same(list(one), list(iter(one)))


if __name__ == "__main__":
    unittest.main()
