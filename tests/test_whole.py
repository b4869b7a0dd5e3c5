"""[0.15], [0.16]: what holds over the whole program."""

import random
import unittest

from letterrules.answers.answers import (
    ANSWERS, answer, answer_paper, is_answer_paper, is_kept_paper, kept_paper, needed, pattern_answer, set_for, sort_for,
)
from letterrules.answers.follows import follow_paper, follows, is_follow_paper
from letterrules.base.letters import new_names
from letterrules.desk.desk import Desk
from letterrules.drive.drivers import beat, drive, is_beat_paper, is_drive_paper
from letterrules.errors import InvalidOperation
from letterrules.marks.known import WORDS, Marking, is_calm, known
from letterrules.marks.least import breaking_run, is_keeping_paper, keeping_paper, keeps, least_markings
from letterrules.own.orders import own_orders
from letterrules.own.ownruns import own_run
from letterrules.plays.plays import Play, Transport
from letterrules.plays.standard import first_held, marked, noted, numbered, played, silent
from letterrules.plays.talkers import Talker, TalkPlay
from letterrules.rules.breaks import breaks, first_break
from letterrules.rules.patterns import Pattern, Rule
from letterrules.runs.runs import Run
from letterrules.runs.sets import SETS, all_pairs, bar, is_in, late_letters, set_of
from letterrules.text.formats import format_run, format_steps, parse_run, parse_steps
from letterrules.watch.watchers import Watcher
from support import CROSS, LAST, OVERTAKE, STALE, Case, many_patterns, run_of, some_run

SX, SY, SZ, RX, RY, RZ = [(word, name) for word in ("send", "read") for name in "xyz"]
NEVER = Rule(Pattern(x=None))
KINDS = (None, ("k",), ("l", "m"))
NAMES = new_names(40)


def some_rules(seed, many):
    chance = random.Random(seed)
    patterns = [CROSS, OVERTAKE, STALE, *many_patterns(seed, 30, KINDS, most=3)]
    for _ in range(many):
        picked = chance.sample(patterns, chance.choice((1, 1, 2, 3)))
        yield Rule.of(tuple(one for at, one in enumerate(picked) if one not in picked[:at]))


def quiet_play(chance, transport, processes="pqr", many=40):
    """A quiet play behind a random walk: steps of a transport, or moves of a talker."""
    is_talker = isinstance(transport, Talker)
    play = TalkPlay(transport, *processes) if is_talker else Play(transport, *processes)
    names = list(NAMES[:5])
    for at in range(many * 20):
        steps = list(play.next_moves() if is_talker else play.next_steps())
        if names and (not steps or chance.random() < 0.2):
            steps = [("wish", names.pop(), chance.choice("klm"), *chance.sample(processes, 2))]
        if not steps:
            break
        play.do(chance.choice(steps))
    assert play.is_quiet()
    return play


class GuaranteeTests(Case):
    def test_exactly_one_answer(self):
        for rule in some_rules(1, 40):
            found = answer(rule)
            self.same(found, max((pattern_answer(pattern) for pattern in rule), key=ANSWERS.index))
            level = ANSWERS.index(found)
            for at, among in enumerate(SETS):
                self.assertIs(kept_paper(rule, among) is not None, at >= level)
            self.assertIs(is_answer_paper(rule, answer_paper(rule)), True)

    def test_answers_by_own_orders(self):
        for pattern in many_patterns(7, 60, KINDS, most=4):
            sets = [order.run_set for order in own_orders(pattern)]
            wanted = {"all": "numbers", "pairs": "notes", "causal": "letters", "single": "never"}
            self.same(pattern_answer(pattern), wanted[max(sets, key=SETS.index)] if sets else "nothing")

    def test_transports_of_the_sort_keep_the_rule(self):
        sorts = {"nothing": silent(), "numbers": numbered(), "notes": noted(), "letters": Talker.asking()}
        for at, rule in enumerate(some_rules(2, 40)):
            found = answer(rule)
            if found == "never":
                continue
            among = set_for(found)
            self.same(sort_for(among), found)
            self.assertIs(is_kept_paper(rule, among, kept_paper(rule, among)), True)
            for seed in range(6):
                run = quiet_play(random.Random(100 * at + seed), sorts[found]).run()
                self.assertTrue(is_in(run, among))
                self.assertFalse(breaks(run, rule))

    def test_no_live_transport_of_a_lesser_sort_keeps_it(self):
        live = (silent(), numbered(), noted())
        for rule in some_rules(3, 40):
            level = ANSWERS.index(answer(rule))
            for transport in live[:level]:
                paper = beat(rule, transport)
                self.same(paper[0], "broken")
                self.assertIs(is_beat_paper(rule, transport, paper), True)
            for transport in live[level:]:
                self.fails(InvalidOperation, beat, rule, transport)
            if level == 4:
                self.same(beat(rule, Talker.asking())[0], "broken")

    def test_markings(self):
        for at, rule in enumerate(some_rules(4, 40)):
            least = least_markings(rule)
            self.same(bool(least), answer(rule) in ANSWERS[:3])
            chance = random.Random(at)
            for marking in (*least, Marking.of({kind: chance.choice(WORDS) for kind in ("k", "l", "m", "other")})):
                kept = keeps(rule, marking)
                self.same(kept, any(one.is_at_most(marking) for one in least))
                if kept:
                    self.assertIs(is_keeping_paper(rule, marking, keeping_paper(rule, marking)), True)
                    for seed in range(4):
                        run = quiet_play(random.Random(seed), marked(marking)).run()
                        self.assertTrue(is_calm(run, marking) and not breaks(run, rule))
                else:
                    index, run, placing = breaking_run(rule, marking)
                    self.same(drive(run, marked(marking))[0], "made")
                    self.assertTrue(breaks(run, rule))
                    self.same(beat(rule, marked(marking))[0], "broken")

    def test_runs_that_are_made(self):
        """[13.2] beside the sets: what each standard transport makes."""
        for seed in range(100):
            run = some_run(random.Random(seed), 4, "pqr", read=1, kinds=("k", "l"))
            for transport, among in ((silent(), "all"), (numbered(), "pairs"), (noted(), "causal")):
                self.same(first_held(transport, run) is None, is_in(run, among))
                self.same(is_calm(run, transport.marking), is_in(run, among))
            if is_in(run, "single"):
                paper = drive(run, Talker.asking())
                self.same((paper[0], is_drive_paper(run, Talker.asking(), paper)), ("made", True))

    def test_rules_that_follow(self):
        rules = list(some_rules(5, 12))
        for rule in rules:
            for other in rules[:6]:
                for among in SETS:
                    paper = follow_paper(rule, other, among=among)
                    self.assertIs(is_follow_paper(rule, other, paper, among=among), True)
                    if paper[0] == "parted":
                        run = paper[1]
                        self.assertTrue(is_in(run, among) and breaks(run, other) and not breaks(run, rule))

    def test_a_run_that_goes_on_breaks_what_it_broke(self):
        rules = list(some_rules(6, 10))
        for seed in range(20):
            run = some_run(random.Random(seed), 4, "pqr", read=1, kinds=("k", "l", "m", "order", "report"))
            for rule in rules:
                parts = [run.until(*run.order[:at]) for at in range(len(run.order) + 1)]
                found = [breaks(part, rule) for part in parts]
                self.same(found, sorted(found))

    def test_watchers_tell_the_first_event(self):
        """[16.2]: behind `since` events no run of the set that goes on keeps the rule; one event before, one does."""
        for seed, rule in enumerate(some_rules(8, 20)):
            run = some_run(random.Random(seed), 4, "pq", read=1, kinds=("k", "l", "order", "report"))
            watcher = Watcher(rule)
            for word, name in run:
                watcher.send(name, *run.letters[name]) if word == "send" else watcher.read(name)
            self.same(watcher.verdict == "broken", breaks(run, rule))
            self.same(watcher.since is None, not breaks(run, rule))
            if watcher.since is not None:
                watcher.undo(len(watcher) - watcher.since + 1)
                self.same(watcher.verdict, "open")
                for row in watcher.paper[1].values():
                    for name in row:
                        self.same(watcher.read(name), "open")
                self.assertFalse(breaks(watcher.run(), rule))

    def test_desks(self):
        rules = list(some_rules(9, 8))
        for seed in range(6):
            chance = random.Random(seed)
            desk = Desk()
            for _ in range(15):
                word = chance.choice(("put", "put", "drop", "choose", "undo", "redo", "trial"))
                if word == "put":
                    desk.put(chance.choice("abcd"), chance.choice(rules))
                elif word == "drop" and len(desk):
                    desk.drop(chance.choice(desk.names))
                elif word == "choose":
                    desk.choose(Marking.of({kind: chance.choice(WORDS) for kind in ("k", "other", "l")}))
                elif word == "undo":
                    desk.undo(chance.randint(0, desk.steps))
                elif word == "trial":
                    desk.during(lambda same: (same.put("zz", NEVER), same.undo(same.steps)))
                self.same(desk.answer, max((answer(desk[name]) for name in desk), key=ANSWERS.index, default="nothing"))
                self.same(desk.kept(), tuple(name for name in desk if keeps(desk[name], desk.marking)))
                kept = [desk[name] for name in desk if answer(desk[name]) in ANSWERS[:3]]
                for marking in desk.least():
                    self.assertTrue(all(keeps(rule, marking) for rule in kept))
                    run = quiet_play(random.Random(seed), marked(marking)).run()
                    self.assertFalse(set(desk(run)) & {name for name in desk if answer(desk[name]) in ANSWERS[:3]})


class FalseTests(Case):
    """[0.16]: none of these is true."""

    def test_readings_at_one_process_need_numbers(self):
        rule = Rule(OVERTAKE)
        self.same((answer(rule), answer(Rule(Pattern(groups=((RX, RY),), x=None, y=None)))), ("numbers", "never"))
        self.same(beat(rule, silent())[0], "broken")

    def test_notes_are_not_needed_on_all_kinds(self):
        relay = Rule(Pattern(conditions=((SX, SZ), (RZ, SY), (RY, RX)), groups=((SX, SZ), (RZ, SY), (RX, RY)), x=None, y=("k",), z=("l",)))
        self.same(answer(relay), "notes")
        self.assertEqual(least_markings(relay), (Marking(k="notes", l="numbers"),))
        marking = Marking(k="notes", l="numbers")
        for seed in range(20):
            self.assertFalse(breaks(quiet_play(random.Random(seed), marked(marking)).run(), relay))
        for lesser in (Marking(k="numbers", l="numbers"), Marking(k="notes"), Marking(other="notes", l="nothing")):
            self.same(beat(relay, marked(lesser))[0], "broken")

    def test_a_rule_can_have_two_least_markings(self):
        rule = Rule(Pattern(conditions=((SX, SY), (SX, SZ), (RY, RX), (RZ, RX)), groups=((SX, SY, SZ), (RX, RY, RZ)), x=None, y=("k",), z=("l",)))
        self.assertEqual(least_markings(rule), (Marking(l="numbers"), Marking(k="numbers")))

    def test_numbers_among_three_processes(self):
        between = STALE.with_group(SX, SY)
        self.same((pattern_answer(between), pattern_answer(STALE)), ("numbers", "notes"))
        self.same((len({letter[1] for letter in beat_run(Rule(STALE), numbered()).letters.values()}) >= 2), True)

    def test_late_without_being_overtaken(self):
        self.same((late_letters(LAST), all_pairs(LAST)), (("a",), ()))

    def test_crowns_of_three(self):
        ring = run_of("p +a -c, q +b -a, r +c -b")
        self.same((set_of(ring), breaks(ring, Rule(CROSS)), len(bar(ring, "single"))), ("causal", False, 3))

    def test_fewer_letters_do_not_need_less(self):
        self.same((pattern_answer(CROSS), pattern_answer(CROSS.without_letter("y"))), ("letters", "never"))

    def test_two_rules_that_notes_keep(self):
        both = Rule(STALE) | Rule(STALE.with_letter("x", "k"))
        self.same((answer(Rule(STALE)), answer(both), keeps(both, Marking.even("notes"))), ("notes", "notes", True))

    def test_following_among_causal_runs(self):
        one, other = Rule(OVERTAKE), Rule(STALE)
        self.same([follows(one, other, among=among) for among in SETS], [False, False, True, True])

    def test_a_broken_run_with_other_letters_than_an_own_run(self):
        (order,) = own_orders(STALE)
        self.same((len(LAST), len(own_run(order)[0]), first_break(LAST, Rule(STALE))), (3, 4, (0, {"x": "a", "y": "c"})))

    def test_live_with_two_processes_only(self):
        def from_one(view, letter):
            read = [item[1] for item in view if item[0] == "read"]
            sender = {item[1]: item[3] for item in view if item[0] == "come"}
            return not read or sender[letter] == sender[read[0]]

        transport = Transport(Marking(), may_read=from_one)
        for seed in range(20):
            self.assertTrue(quiet_play(random.Random(seed), transport, "pq").is_quiet())
        run = run_of("p +a, r +b, q -a -b")
        word, steps = paper = drive(run, transport)
        self.same((word, is_drive_paper(run, transport, paper)), ("still", True))
        self.same(len({name for step in steps if step[0] == "wish" for name in step[3:]}), 3)

    def test_no_process_knows_that_a_rule_is_broken(self):
        crossed = run_of("p +a -b, q +b -a")
        one, other = run_of("q +b -a, p -b +a"), run_of("p +a -b, q -a +b")
        self.same([breaks(run, Rule(CROSS)) for run in (crossed, one, other)], [True, False, False])
        plays = [played(silent(), run) for run in (crossed, one, other)]
        self.same(plays[0].view("q"), plays[1].view("q"))
        self.same(plays[0].view("p"), plays[2].view("p"))
        self.same([known(crossed, Marking(), process, 1) for process in "pq"], [("a", "b")] * 2)


def beat_run(rule, transport):
    """The run of a play in which a transport breaks a rule."""
    _, steps = beat(rule, transport)
    play = Play(transport, *sorted({name for step in steps if step[0] == "wish" for name in step[3:]}))
    play.do_all(steps)
    return play.run()


class BesideTests(Case):
    def test_runs_steps_and_texts(self):
        for seed in range(20):
            run = some_run(random.Random(seed), 5, "pqr", read=1, kinds=("k", "l"))
            marking = Marking(k="numbers")
            if is_calm(run, marking):
                play = played(marked(marking), run)
                again = Play(marked(marking), *parse_run(format_run(run)).processes)
                again.do_all(parse_steps(format_steps(play.steps)))
                self.assertEqual((again, again.run()), (play, run))

    def test_needed_parts(self):
        for pattern in many_patterns(2, 20, KINDS, most=3):
            for word, part in needed(pattern):
                other = pattern.without_condition(*part) if word == "condition" else pattern.without_group(part[0])
                self.assertGreater(ANSWERS.index(pattern_answer(other)), ANSWERS.index(pattern_answer(pattern)))

    def test_sixty_letters_and_forty_processes(self):
        letters = {NAMES[at]: ("order" if at % 2 else "report", NAMES[at], NAMES[(at + 1) % 40]) for at in range(40)}
        run = Run(letters, {name: (("send", name), ("read", NAMES[at - 1])) for at, name in enumerate(NAMES)})
        self.same((set_of(run), len(bar(run, "single")), first_held(noted(), run)), ("causal", 40, None))
        self.same(drive(run, noted())[0], "made")
        self.assertEqual(parse_run(format_run(run)), run)
        self.same((Desk(a=Rule(CROSS), b=Rule(STALE))(run), breaks(run, NEVER)), ((), True))


if __name__ == "__main__":
    unittest.main()
