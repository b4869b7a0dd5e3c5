"""[16.1] to [16.3]: completions, watch papers and watchers."""

import itertools
import random
import unittest

from letterrules.base.letters import new_names
from letterrules.errors import InvalidNumber, InvalidOperation, InvalidRule, InvalidRun, NothingToUndo, TooMany
from letterrules.rules.breaks import breaks, first_break, is_placing, placings
from letterrules.rules.patterns import Pattern, Rule
from letterrules.runs.runs import Run
from letterrules.runs.sets import SETS, is_in
from letterrules.watch.watchers import MAX_UNREAD, Watcher, completions, is_watch_paper, watch_paper
from support import CROSS, HUGE, LAST, OVERTAKE, STALE, VALUES, Case, many_patterns, others, run_of, some_run

EXAMPLES = """
>>> watcher = Watcher(Rule(OVERTAKE))
>>> [watcher.send("a", "order", "p", "q"), watcher.send("b", "report", "p", "q"), watcher.paper, watcher.read("b"), watcher.read("a"), watcher.since]
['open', 'open', ('open', {'q': ('a', 'b')}), 'sure', 'broken', 3]
>>> [watcher.undo(many=2), str(watcher), list(completions(watcher.run(), among="pairs"))]
[2, 'watcher of 2 events, open', [{'q': ('a', 'b')}]]
"""

SX, SY, RX, RY = ("send", "x"), ("send", "y"), ("read", "x"), ("read", "y")
# Two letters that are read at one process: it is broken whichever is read first.
TWICE = Pattern(groups=((RX, RY),), x=None, y=None)
NAMES = new_names(70)


class Failure(Exception):
    """An error of its own."""


def fail(*parts):
    raise Failure(parts)


def naive_completions(run, among):
    """All completions by trying all orders at each reader: pairs of the readings and the whole run."""
    letters, waiting = run.letters, {}
    for name in run.unread:
        waiting.setdefault(letters[name][2], []).append(name)
    found = []
    for orders in itertools.product(*(itertools.permutations(waiting[reader]) for reader in sorted(waiting))):
        readings = dict(zip(sorted(waiting), orders))
        rows = run.rows
        for reader, order in readings.items():
            rows[reader] = (*rows[reader], *(("read", name) for name in order))
        whole = Run(letters, rows)
        if is_in(whole, among):
            found.append((readings, whole))
    return sorted(found, key=lambda pair: tuple(pair[0].items()))


def some_runs(seed, many, kinds=("k", "l", "other")):
    """Runs with few unread letters."""
    for at in range(many):
        chance = random.Random(seed * 1000 + at)
        run = some_run(chance, 1 + at % 6, ("pq", "pqr", "pqrs")[at % 3], read=0.7, kinds=kinds)
        if len(run.unread) <= 4:
            yield run


def some_rules(seed):
    chance = random.Random(seed)
    patterns = [CROSS, OVERTAKE, STALE, TWICE, *many_patterns(seed, 10, (None, ("k",), ("k", "l")), most=3)]
    while True:
        picked = chance.sample(patterns, chance.randrange(1, 3))
        if len(picked) == 1 or picked[0] != picked[1]:
            yield Rule.of(tuple(picked))


class ExampleTests(Case):
    def test_examples(self):
        self.examples(EXAMPLES, dict(globals()))

    def test_constant(self):
        self.same(MAX_UNREAD, 6)


class CompletionTests(Case):
    def test_compared(self):
        for run in some_runs(1, 200):
            for among in SETS:
                wanted = [readings for readings, _ in naive_completions(run, among)]
                found = list(completions(run, among=among))
                self.same(found, wanted)
                for one, other in zip(found, wanted):
                    self.same(one, other)
            self.same(list(completions(run)), list(completions(run, among="all")))

    def test_many_unread_letters(self):
        """Letters of one sender and of several ones wait for one reader, sent behind one another or not."""
        for seed in range(60):
            chance = random.Random(seed)
            run = some_run(chance, 5, ("pq", "pqr", "pqrs")[seed % 3], read=0.2, kinds=("k",))
            for among in SETS:
                self.same(list(completions(run, among=among)), [readings for readings, _ in naive_completions(run, among)])
        # b is sent behind a by another process, so that only pairs lets it be read first.
        run = run_of("p +a +c, r -c +b")
        run = Run({**run.letters, "a": ("k", "p", "q"), "b": ("k", "r", "q")}, run.rows)
        self.same([len(list(completions(run, among=among))) for among in SETS], [2, 2, 1, 1])

    def test_sets_hold_and_bar(self):
        run = run_of("p +a +b, q")
        run = Run({name: ("k", "p", "q") for name in "ab"}, run.rows)
        self.same(list(completions(run)), [{"q": ("a", "b")}, {"q": ("b", "a")}])
        self.same([list(completions(run, among=among)) for among in SETS[1:]], [[{"q": ("a", "b")}]] * 3)
        self.same(list(completions(LAST)), [{}])
        self.same(list(completions(LAST, among="pairs")), [{}])
        self.same(list(completions(LAST, among="causal")), [])
        self.same(list(completions(Run({}, {"p": ()}), among="single")), [{}])
        crossed = Run({"a": ("k", "p", "q"), "b": ("k", "q", "p")}, {"p": (("send", "a"),), "q": (("send", "b"),)})
        self.same([len(list(completions(crossed, among=among))) for among in SETS], [1, 1, 1, 0])

    def test_readers_ascending(self):
        run = Run({"a": ("k", "p", "z"), "b": ("k", "p", "c"), "d": ("k", "p", "z")}, {"p": (("send", "a"), ("send", "b"), ("send", "d"))})
        found = list(completions(run))
        self.same(found, [{"c": ("b",), "z": ("a", "d")}, {"c": ("b",), "z": ("d", "a")}])
        self.same(list(found[0]), ["c", "z"])

    def test_six_and_seven(self):
        letters = {name: ("k", "p", "q") for name in NAMES[:7]}
        rows = {"p": tuple(("send", name) for name in NAMES[:7])}
        seven = Run(letters, rows)
        six = Run(letters, {**rows, "q": (("read", "d"),)})
        self.same(len(list(completions(six))), 720)
        self.same(list(completions(six))[719], {"q": ("g", "f", "e", "c", "b", "a")})
        self.same(list(completions(six, among="pairs")), [])
        for among in SETS:
            self.fails_with(TooMany, 6, list, completions(seven, among=among))
            self.fails_with(TooMany, 6, watch_paper, seven, Rule(CROSS), among=among)
            self.fails_with(TooMany, 6, is_watch_paper, seven, Rule(CROSS), 5, among=among)
        spread = Run({name: ("k", "p", name) for name in NAMES[:6]}, {"p": tuple(("send", name) for name in NAMES[:6])})
        self.same(list(completions(spread, among="single")), [{name: (name,) for name in "abcdef"}])

    def test_side_by_side_and_each_a_dict_of_its_own(self):
        run = Run({name: ("k", "p", "q") for name in "abc"}, {"p": tuple(("send", name) for name in "abc")})
        wanted = list(completions(run))
        one, other = completions(run), completions(run)
        self.same([next(one), next(one)], wanted[:2])
        first = next(other)
        first.clear()
        first["q"] = ()
        self.same(next(other), wanted[1])
        self.same([*other, "end", *one], [*wanted[2:], "end", *wanted[2:]])
        self.same(next(completions(run)), wanted[0])

    def test_nothing_happens_before_the_first_one(self):
        for value in others(Run):
            later = completions(value, among=5)
            self.fails(InvalidRun, next, later)
        for value in VALUES:
            if value not in SETS:
                later = completions(LAST, among=value)
                self.fails(InvalidOperation, next, later)
        seven = Run({name: ("k", "p", "q") for name in NAMES[:7]}, {"p": tuple(("send", name) for name in NAMES[:7])})
        later = completions(seven)
        self.fails_with(TooMany, 6, next, later)
        self.fails(InvalidOperation, list, completions(seven, among="none"))


class PaperTests(Case):
    def naive_word(self, run, rule, found):
        if breaks(run, rule):
            return "broken"
        return "sure" if all(breaks(whole, rule) for _, whole in found) else "open"

    def test_compared(self):
        seen = {}
        rules = some_rules(3)
        for run in some_runs(2, 300):
            rule = next(rules)
            for among in SETS:
                found = naive_completions(run, among)
                if not found:
                    self.fails(InvalidOperation, watch_paper, run, rule, among=among)
                    self.fails(InvalidOperation, is_watch_paper, run, rule, 5, among=among)
                    continue
                paper = watch_paper(run, rule, among=among)
                word = self.naive_word(run, rule, found)
                self.same(paper[0], word)
                seen[word] = seen.get(word, 0) + 1
                self.check_judge(run, rule, among, found, word, paper)
        self.assertGreater(min(seen.values()), 20)
        self.same(len(seen), 3)

    def check_judge(self, run, rule, among, found, word, paper):
        """The judge accepts all right papers of each form, and nothing else."""
        def judge(value):
            return is_watch_paper(run, rule, value, among=among)

        self.assertIs(judge(paper), True)
        for index, pattern in enumerate(rule.patterns):
            for placing in itertools.islice(placings(run, pattern), 3):
                self.assertIs(judge(("broken", index, placing)), True)
                self.assertIs(judge(("broken", len(rule), placing)), False)
                self.assertIs(judge(("broken", index, {**placing, "zz": "a"})), False)
                self.assertIs(judge(("sure", index, placing)), False)
                self.assertIs(judge(("broken", index, placing, 5)), False)
                self.assertIs(judge(("open", index, placing)), False)
            self.assertIs(judge(("broken", index)), False)
            self.assertIs(judge(("broken", index, {name: "zz" for name in pattern})), False)
        for readings, whole in found:
            self.assertIs(judge(("open", readings, 5)), False)
            self.assertIs(judge(("sure", readings)), False)
            self.assertIs(judge(("other", readings)), False)
            self.assertIs(judge(("open", readings)), word == "open" and not breaks(whole, rule))
            self.assertIs(judge(("open", dict(reversed(readings.items())))), word == "open" and not breaks(whole, rule))
        if word != "sure":
            self.assertIs(judge(("sure", ())), False)
            return
        rows = tuple((tuple(readings.items()), *self.last_break(whole, rule)) for readings, whole in found)
        self.assertIs(judge(("sure", rows)), True)
        self.assertIs(judge(("sure", rows, 5)), False)
        for other in ("open", "broken", "other", "", None):
            self.assertIs(judge((other, rows)), False)
        for wrong in (rows[:-1], rows[1:], (*rows, rows[-1]), list(rows), ()):
            self.assertIs(judge(("sure", wrong)), False)
        if len(rows) > 1:
            self.assertIs(judge(("sure", rows[::-1])), False)
        orders, index, names = rows[0]
        for row in ((orders, index), (orders, len(rule), names), (orders, -1, names), (orders, bool(index), names), (orders, index, list(names)),
                    (orders, index, (*names, "a")), (orders, index, names[:-1]), (orders, index, ("zz",) * len(names)), (list(orders), index, names),
                    ((), index, names), (dict(orders), index, names), [orders, index, names], 5, (orders, index, 5)):
            self.assertIs(judge(("sure", (row, *rows[1:]))), False)

    def last_break(self, run, rule):
        """The last pattern that is broken, and its last placing."""
        index = max(at for at, pattern in enumerate(rule.patterns) if list(placings(run, pattern)))
        return index, tuple(list(placings(run, rule[index]))[-1].values())

    def test_open_papers(self):
        run = Run({name: ("k", "p", "q") for name in "ab"}, {"p": (("send", "a"), ("send", "b"))})
        self.same(watch_paper(run, Rule(OVERTAKE)), ("open", {"q": ("a", "b")}))
        for readings, wanted in (({"q": ("a", "b")}, True), ({"q": ("b", "a")}, False), ({"q": ("a",)}, False), ({"q": ("a", "b", "a")}, False),
                                 ({"q": ["a", "b"]}, False), ({}, False), ({"q": ("a", "b"), "p": ()}, False), ({"p": ("a", "b")}, False),
                                 ({"q": ("a", "c")}, False), ({"q": (("a",), "b")}, False), ({"q": "ab"}, False), ({"q": None}, False),
                                 ({5: ("a", "b")}, False), ({"q": (1, "a")}, False)):
            self.assertIs(is_watch_paper(run, Rule(OVERTAKE), ("open", readings)), wanted)
        self.assertIs(is_watch_paper(run, Rule(STALE), ("open", {"q": ("b", "a")})), True)
        self.assertIs(is_watch_paper(run, Rule(STALE), ("open", {"q": ("b", "a")}), among="pairs"), False)
        self.assertIs(is_watch_paper(run, Rule(STALE), ("open", {"q": ("a", "b")}), among="single"), True)

    def test_broken_and_whole_runs(self):
        self.same(watch_paper(LAST, Rule(OVERTAKE, STALE)), ("broken", 1, {"x": "a", "y": "c"}))
        self.same(watch_paper(LAST, Rule(OVERTAKE)), ("open", {}))
        self.assertIs(is_watch_paper(LAST, Rule(OVERTAKE), ("open", {})), True)
        self.assertIs(is_watch_paper(LAST, Rule(STALE), ("open", {})), False)
        self.assertIs(is_watch_paper(LAST, Rule(STALE), ("broken", False, {"x": "a", "y": "c"})), False)
        self.assertIs(is_watch_paper(LAST, Rule(STALE), ("broken", 0, {"y": "c", "x": "a"})), True)

    def test_surely_broken(self):
        # The reading of a is still to come, but events are ahead of it already.
        run = Run({"a": ("order", "p", "q"), "c": ("report", "p", "q")}, {"p": (("send", "a"), ("send", "c")), "q": (("read", "c"),)})
        self.assertFalse(breaks(run, Rule(STALE)))
        self.same(watch_paper(run, Rule(STALE)), ("sure", (((("q", ("a",)),), 0, ("a", "c")),)))
        self.fails(InvalidOperation, watch_paper, run, Rule(STALE), among="pairs")
        # A pattern is broken whichever letter is read first.
        both = Run({name: ("k", "p", "q") for name in "ab"}, {"p": (("send", "a"), ("send", "b"))})
        self.assertFalse(breaks(both, Rule(TWICE)))
        paper = watch_paper(both, Rule(TWICE))
        self.same((paper[0], [row[0] for row in paper[1]]), ("sure", [(("q", ("a", "b")),), (("q", ("b", "a")),)]))
        self.same(len(watch_paper(both, Rule(TWICE), among="causal")[1]), 1)

    def test_values_of_any_kind(self):
        run = Run({name: ("k", "p", "q") for name in "ab"}, {"p": (("send", "a"), ("send", "b"))})
        for rule in (Rule(OVERTAKE), Rule(TWICE), Rule(Pattern(x=None))):
            for value in VALUES:
                for part in (value, (value, {"q": ("a", "b")}), ("open", value), ("sure", value), ("sure", (value,)), ("sure", (value, value)),
                             ("broken", value, {"x": "c"}), ("broken", 0, value), ["open", {"q": ("a", "b")}], ("open", {"q": (value, "b")}), ("open", {"p": value})):
                    is_right = rule == Rule(OVERTAKE) and part == ("open", {"q": ("a", "b")})
                    self.assertIs(is_watch_paper(run, rule, part), is_right)

    def test_errors(self):
        seven = Run({name: ("k", "p", "q") for name in NAMES[:7]}, {"p": tuple(("send", name) for name in NAMES[:7])})
        for value in others(Run):
            self.fails(InvalidRun, watch_paper, value, 5, among=5)
            self.fails(InvalidRun, is_watch_paper, value, 5, 5, among=5)
        for value in others(Rule):
            for run in (LAST, seven):
                self.fails(InvalidRule, watch_paper, run, value, among=5)
                self.fails(InvalidRule, is_watch_paper, run, value, 5, among=5)
        for value in VALUES:
            if value not in SETS:
                for run in (LAST, seven):
                    self.fails(InvalidOperation, watch_paper, run, Rule(CROSS), among=value)
                    self.fails(InvalidOperation, is_watch_paper, run, Rule(CROSS), 5, among=value)
        five = Rule(Pattern(**{name: None for name in "abcde"}))
        letters = {name: ("k", "p", "q") for name in NAMES[:20]}
        rows = {"p": tuple(("send", name) for name in NAMES[:20]), "q": tuple(("read", name) for name in NAMES[19:0:-1])}
        many = Run(letters, rows)
        self.fails_with(TooMany, 1000000, watch_paper, many, five)
        for value in (("open", {}), 5, (), ("sure", ())):
            self.fails_with(TooMany, 1000000, is_watch_paper, many, five, value)
        self.fails(InvalidOperation, watch_paper, many, five, among="pairs")
        self.fails(InvalidOperation, is_watch_paper, many, five, 5, among="single")
        unread = Run(letters, {"p": rows["p"]})
        self.fails_with(TooMany, 6, watch_paper, unread, five, among="pairs")
        fifteen = Run({name: ("k", "p", "q") for name in NAMES[:15]}, {"p": rows["p"][:15], "q": tuple(("read", name) for name in NAMES[:15])})
        self.same(watch_paper(fifteen, five)[0], "broken")


class WatcherTests(Case):
    def events_of(self, chance, many, processes="pqr"):
        """Events of a run in an order in which they can be told."""
        run = some_run(chance, many, processes, read=1, kinds=("k", "order", "report"))
        left = list(run)
        while left:
            event = chance.choice([one for one in left if not any(run(other, one) for other in left)])
            left.remove(event)
            yield run, event

    def tell(self, watcher, run, event):
        word, name = event
        return watcher.send(name, *run.letters[name]) if word == "send" else watcher.read(name)

    def test_event_by_event(self):
        seen = {}
        rules = some_rules(9)
        for seed in range(60):
            chance = random.Random(seed)
            rule, among = next(rules), SETS[seed % 4]
            watcher = Watcher(rule, among=among)
            events, since = [], None
            self.same((watcher.verdict, watcher.paper, watcher.since, len(watcher)), ("open", ("open", {}), None, 0))
            for run, event in self.events_of(chance, 5):
                part = run.with_events([*events, event])
                part = Run(part.letters, {name: row for name, row in part.rows.items() if row})
                if len(part.unread) > 4 or not naive_completions(part, among):
                    before = watcher.twin()
                    if len(part.unread) <= 4:
                        self.fails(InvalidOperation, self.tell, watcher, run, event)
                    self.assertEqual(watcher, before)
                    break
                events.append(event)
                found = self.tell(watcher, run, event)
                word = PaperTests.naive_word(self, part, rule, naive_completions(part, among))
                seen[word] = seen.get(word, 0) + 1
                since = len(events) if since is None and word != "open" else since
                self.same((found, watcher.verdict, watcher.paper[0], watcher.since, len(watcher)), (word, word, word, since, len(events)))
                self.assertEqual(watcher.run(), part)
                self.assertIs(is_watch_paper(part, rule, watcher.paper, among=among), True)
                self.same(str(watcher), f"watcher of {len(events)} events, {word}")
        self.same(len(seen), 3)
        self.assertGreater(min(seen.values()), 20)

    def test_orders_that_agree_with_a_run(self):
        rules = some_rules(4)
        for seed in range(40):
            rule, among = next(rules), SETS[seed % 4]
            chance = random.Random(seed)
            run = some_run(chance, 4, "pqr", read=1, kinds=("k", "order", "report"))
            if not is_in(run, among):
                continue
            verdicts = set()
            for other in range(4):
                again = random.Random(other)
                watcher, left = Watcher(rule, among=among), list(run)
                while left:
                    event = again.choice([one for one in left if not any(run(first, one) for first in left)])
                    left.remove(event)
                    verdicts.add(self.tell(watcher, run, event)) if not left else self.tell(watcher, run, event)
                self.assertEqual(watcher.run().rows, {name: row for name, row in run.rows.items() if name in watcher.run().rows})
            self.same(verdicts, {"broken" if first_break(run, rule) else "open"})

    def test_plain(self):
        watcher = Watcher(Rule(STALE), among="pairs")
        self.same((watcher.among, watcher.rule == Rule(STALE), Watcher(Rule(STALE)).among), ("pairs", True, "all"))
        self.same((watcher.run() == Run({}, {}), str(watcher), bool(watcher)), (True, "watcher of 0 events, open", False))
        self.same(watcher.send("a", "order", "p", "q"), "open")
        self.same((watcher.run().processes, watcher.run().unread, str(watcher)), (("p", "q"), ("a",), "watcher of 1 events, open"))
        for name in ("rule", "among", "paper", "verdict", "since"):
            self.fails(AttributeError, setattr, watcher, name, 5)
        self.fails(TypeError, iter, watcher)

    def test_errors(self):
        for value in others(Rule):
            self.fails(InvalidRule, Watcher, value, among=5)
        for value in VALUES:
            if value not in SETS:
                self.fails(InvalidOperation, Watcher, Rule(STALE), among=value)

    def test_events_that_cannot_be(self):
        watcher = Watcher(Rule(CROSS))
        watcher.send("a", "k", "p", "q")
        watcher.send("b", "k", "p", "q")
        watcher.read("b")
        before = watcher.twin()
        for value in VALUES:
            if value not in ("a", "z"):
                self.fails(InvalidRun, watcher.read, value)
            for at in range(4):
                parts = ["c", "k", "p", "q"]
                parts[at] = value
                if value in ("a", "abcdefgh", "send", "all") and at > 0 or value in ("abcdefgh", "send", "all"):
                    continue
                self.fails(InvalidRun, watcher.send, *parts)
        for parts in (("a", "k", "p", "q"), ("b", "l", "q", "p"), ("c", "k", "p", "p"), ("c", "K", "p", "q"), (["c"], "k", "p", "q")):
            self.fails(InvalidRun, watcher.send, *parts)
        for name in ("b", "c", "abc", ["a"], ("a",)):
            self.fails(InvalidRun, watcher.read, name)
        self.assertEqual(watcher, before)
        self.same((len(watcher), watcher.read("a"), watcher.send("c", "other", "z", "p")), (3, "broken", "broken"))

    def test_too_many(self):
        watcher = Watcher(Rule(STALE))
        for name in NAMES[:60]:
            watcher.send(name, "k", "p", "q")
            watcher.read(name)
        self.fails(InvalidRun, watcher.send, NAMES[60], "k", "p", "q")
        self.same((len(watcher), len(watcher.run())), (120, 60))
        watcher = Watcher(Rule(STALE))
        for at in range(20):
            watcher.send(NAMES[at], "k", NAMES[2 * at], NAMES[2 * at + 1])
            watcher.read(NAMES[at])
        self.fails(InvalidRun, watcher.send, "zz", "k", NAMES[0], "new")
        self.fails(InvalidRun, watcher.send, "zz", "k", "newer", "new")
        self.same((watcher.send("zz", "k", NAMES[0], NAMES[1]), len(watcher.run().processes)), ("open", 40))

    def test_too_many_unread_and_choices(self):
        watcher = Watcher(Rule(STALE))
        for name in NAMES[:6]:
            watcher.send(name, "k", "p", "q")
        before = watcher.twin()
        self.fails_with(TooMany, 6, watcher.send, "zz", "k", "p", "q")
        self.assertEqual(watcher, before)
        self.same((watcher.read("c"), watcher.send("zz", "k", "p", "q"), len(watcher)), ("open", "open", 8))
        five = Watcher(Rule(Pattern(**{name: None for name in "abcde"}, conditions=((("send", "a"), ("send", "a")),))))
        for name in NAMES[:15]:
            five.send(name, "k", "p", "q")
            five.read(name)
        self.fails_with(TooMany, 1000000, five.send, "zz", "k", "p", "q")
        self.same((len(five), five.send("zz", "other", "p", "q")), (30, "open"))

    def test_no_completion_in_the_set(self):
        watcher = Watcher(Rule(CROSS), among="pairs")
        for name in "ab":
            watcher.send(name, "k", "p", "q")
        self.fails(InvalidOperation, watcher.read, "b")
        self.same((len(watcher), watcher.run().unread, watcher.read("a"), watcher.read("b")), (2, ("a", "b"), "open", "open"))

    def test_since(self):
        watcher = Watcher(Rule(Pattern(x=("k",))))
        self.same([watcher.send("a", "l", "p", "q"), watcher.since], ["open", None])
        # The pattern asks for no event, so the letter is placed as soon as it is sent.
        self.same([watcher.send("b", "k", "p", "q"), watcher.since, watcher.read("a"), watcher.since], ["broken", 2, "broken", 2])
        self.same([watcher.undo(), watcher.since, watcher.undo(), watcher.since, watcher.verdict], [2, 2, 1, None, "open"])
        self.same([watcher.send("c", "k", "p", "q"), watcher.since, watcher.undo(2), watcher.since], ["broken", 2, 0, None])

    def test_undo(self):
        for seed in range(10):
            chance = random.Random(seed)
            watcher, twins = Watcher(Rule(CROSS, OVERTAKE)), []
            for run, event in self.events_of(chance, 4):
                twins.append((watcher.twin(), watcher.paper, watcher.since))
                self.tell(watcher, run, event)
            for many in (0, 1, 3):
                self.same(watcher.undo(many), len(twins) - many)
                del twins[len(twins) - many + 1:]
                twin, paper, since = twins[-1] if many else (watcher.twin(), watcher.paper, watcher.since)
                self.assertEqual(watcher, twin)
                self.same((watcher.paper, watcher.since), (paper, since))
                self.assertEqual(watcher.run(), twin.run())
                if many:
                    twins.pop()
            many = len(watcher)
            for value in (*others(int), -1, -HUGE, True, False):
                self.fails_with(InvalidNumber, value, watcher.undo, value)
                self.fails_with(InvalidNumber, value, watcher.undo, many=value)
            for value in (many + 1, HUGE):
                self.fails_with(NothingToUndo, value, watcher.undo, value)
            self.same((len(watcher), watcher.undo(many=many), watcher.undo(0)), (many, 0, 0))
            self.fails_with(NothingToUndo, 1, watcher.undo)
            self.assertEqual(watcher, Watcher(Rule(CROSS, OVERTAKE)))

    def test_trial_attempt_and_twin(self):
        watcher = Watcher(Rule(OVERTAKE))
        watcher.send("a", "k", "p", "q")
        before = watcher.twin()
        with watcher.trial() as same:
            self.assertIs(same, watcher)
            watcher.send("b", "k", "p", "q")
            with watcher.trial():
                self.same(watcher.read("b"), "sure")
                with self.assertRaises(Failure):
                    with watcher.trial():
                        watcher.undo(3)
                        fail()
                self.same((len(watcher), watcher.since), (3, 3))
            self.same((len(watcher), watcher.verdict, watcher.since), (2, "open", None))
        self.assertEqual(watcher, before)
        with self.assertRaises(InvalidRun):
            with watcher.trial():
                watcher.undo()
                watcher.read("a")
        self.assertEqual(watcher, before)
        self.same(watcher.attempt(lambda one: (one is watcher, one.read("a"), len(one))), (True, "open", 2))
        self.fails(Failure, watcher.attempt, lambda one: (one.undo(), fail()))
        self.same((len(watcher), watcher.run().unread), (1, ("a",)))
        twin = watcher.twin()
        twin.undo()
        watcher.read("a")
        self.same((len(twin), len(watcher), twin == Watcher(Rule(OVERTAKE))), (0, 2, True))

    def test_with_rule(self):
        watcher = Watcher(Rule(STALE), among="all")
        for name in "ab":
            watcher.send(name, "k", "p", "q")
        watcher.read("b")
        more = watcher.with_rule(Rule(OVERTAKE, STALE))
        self.same((more.rule == Rule(STALE, OVERTAKE), more.verdict, more.since, len(more), more.among), (True, "sure", 3, 3, "all"))
        self.same((watcher.verdict, watcher.rule == Rule(STALE), len(watcher)), ("open", True, 3))
        self.same((more.read("a"), len(watcher)), ("broken", 3))
        self.same(Watcher(Rule(STALE), among="causal").with_rule(Rule(CROSS)).among, "causal")
        for value in others(Rule):
            self.fails(InvalidRule, watcher.with_rule, value)
        six = Rule(*(Pattern(**{name: None}) for name in "abcdef"))
        self.fails(InvalidRule, watcher.with_rule, six)
        self.same(len(Watcher(six).with_rule(six).rule), 6)
        for name in NAMES[2:16]:
            watcher.send(name, "k", "p", "q")
            watcher.read(name)
        self.fails_with(TooMany, 1000000, watcher.with_rule, Rule(Pattern(**{name: None for name in "abcde"})))

    def test_equal(self):
        def told(rule, among, *events):
            watcher = Watcher(rule, among=among)
            for event in events:
                watcher.send(*event) if len(event) > 1 else watcher.read(*event)
            return watcher

        a, b = ("a", "k", "p", "q"), ("b", "k", "r", "q")
        one = told(Rule(CROSS), "all", a, b)
        self.assertTrue(one == told(Rule(CROSS), "all", a, b) and not one != told(Rule(CROSS), "all", a, b))
        for other in (told(Rule(CROSS), "all", b, a), told(Rule(CROSS), "pairs", a, b), told(Rule(STALE), "all", a, b), told(Rule(CROSS), "all", a),
                      told(Rule(CROSS), "all", a, ("b", "l", "r", "q")), told(Rule(CROSS), "all", a, b, ("a",)), told(Rule(CROSS, STALE), "all", a, b)):
            self.assertTrue(one != other and not one == other)
        self.assertEqual(one.run(), told(Rule(CROSS), "all", b, a).run())
        for value in (*VALUES, one.run(), one.rule):
            self.assertTrue(one != value and not one == value)

    def test_nothing_gives_access(self):
        watcher = Watcher(Rule(OVERTAKE))
        watcher.send("a", "k", "p", "q")
        watcher.paper[1].clear()
        self.same(watcher.paper, ("open", {"q": ("a",)}))
        watcher.send("b", "k", "p", "q")
        watcher.read("b")
        self.same(watcher.read("a"), "broken")
        watcher.paper[2].clear()
        watcher.run().letters.clear()
        self.same((watcher.paper, len(watcher.run())), (("broken", 0, {"x": "a", "y": "b"}), 2))


if __name__ == "__main__":
    unittest.main()
