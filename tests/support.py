"""What several tests use."""

import doctest
import itertools
import math
import random
import unittest

from letterrules.base.orders import Order
from letterrules.desk.desk import Desk
from letterrules.desk.shell import Shell
from letterrules.marks.known import Marking
from letterrules.own.orders import OwnOrder
from letterrules.plays.plays import Play, Transport
from letterrules.plays.talkers import Talker, TalkPlay
from letterrules.rules.patterns import Pattern, Rule
from letterrules.runs.runs import Run
from letterrules.watch.watchers import Watcher

CROSS = Pattern(conditions=((("send", "x"), ("read", "y")), (("send", "y"), ("read", "x"))), x=None, y=None)
OVERTAKE = Pattern(conditions=((("send", "x"), ("send", "y")), (("read", "y"), ("read", "x"))), groups=((("send", "x"), ("send", "y")), (("read", "x"), ("read", "y"))), x=None, y=None)
STALE = Pattern(conditions=((("send", "x"), ("send", "y")), (("read", "y"), ("read", "x"))), groups=((("read", "x"), ("read", "y")),), x=("order",), y=("report",))
LAST = Run({"a": ("order", "p", "q"), "b": ("other", "p", "r"), "c": ("report", "r", "q")}, {"p": (("send", "a"), ("send", "b")), "r": (("read", "b"), ("send", "c")), "q": (("read", "c"), ("read", "a"))})

HUGE = 10 ** 39
DEEP = (((((((((("a",),),),),),),),),),)

# One value of each kind that [0.4] names; tests take those that are wrong for a parameter.
VALUES = (
    0, 1, 7, -1, HUGE, -HUGE, True, False, None,
    "", "a", "abcdefgh", "abcdefghi", "A", "a b", "a\n", "send", "all", "%s", "x" * 10000,
    (), ("a",), ("a", "b"), ("a", "b", "c"), ("send", "a"), ("send", "a", "b"), (("send", "a"),), (1, 2), (True,),
    [], ["a"], ["send", "a"], [[]], {}, {"a": "b"}, {1: []}, {("a", "b"): {}}, ({},), ([],), ((), [{}]), DEEP,
    Order(("a", "b")), (Order(()),), [Order(("a",), )], {"x": Order(())},
    Run({}, {}), LAST, CROSS, Rule(CROSS), (LAST,), [CROSS], {"x": Rule(STALE)}, (CROSS, CROSS),
    OwnOrder(Pattern(z=None), ()), Marking(), Marking(a="notes"), Transport(Marking()), Play(Transport(Marking()), "p", "q"),
    Talker.asking(), TalkPlay(Talker.asking(), "p", "q"), Watcher(Rule(CROSS)), Desk(), Desk(a=Rule(CROSS)), Shell(),
    (Marking(),), {"a": Talker.asking()},
)


def others(*classes):
    """Return the values that are of none of these classes."""
    return [value for value in VALUES if not isinstance(value, classes)]


def rows_of(text):
    """Return rows from a text like `p +a +b, q -b`: sendings and readings at processes."""
    rows = {}
    for part in filter(None, text.split(", ")):
        process, *words = part.split(" ")
        rows[process] = tuple(("send" if word[0] == "+" else "read", word[1:]) for word in words)
    return rows


def run_of(text, **kinds):
    """Return the run with these rows; each letter that is not read goes to the process `lost`."""
    rows = rows_of(text)
    where = {event: process for process, row in rows.items() for event in row}
    letters = {name: (kinds.get(name, "k"), process, where.get(("read", name), "lost"))
               for (word, name), process in where.items() if word == "send"}
    return Run(letters, rows)


def some_run(chance, many, processes="pqr", read=0.9, kinds=("k",)):
    """Return a run that is made step by step: a letter is sent, or one under way is read."""
    letters, rows, under_way = {}, {process: [] for process in processes}, []
    names = [chr(ord("a") + at) for at in range(many)]
    chance.shuffle(names)
    while names or (under_way and chance.random() < read):
        if names and (not under_way or chance.random() < 0.5):
            name = names.pop()
            sender, reader = chance.sample(processes, 2)
            letters[name] = (chance.choice(kinds), sender, reader)
            rows[sender].append(("send", name))
            under_way.append(name)
        else:
            name = under_way.pop(chance.randrange(len(under_way)))
            rows[letters[name][2]].append(("read", name))
    return Run(letters, {process: tuple(row) for process, row in rows.items()})


def closed_steps(steps):
    """Return the set of all pairs that follow from some steps, found in the plainest way."""
    steps = set(steps)
    while True:
        more = {(a, d) for a, b in steps for c, d in steps if b == c} - steps
        if not more:
            return steps
        steps |= more


def all_whole_runs(run):
    """Yield all runs in which the unread letters are read behind the rows of their readers."""
    letters, waiting = run.letters, {}
    for name in run.unread:
        waiting.setdefault(letters[name][2], []).append(name)
    for orders in itertools.product(*(itertools.permutations(names) for names in waiting.values())):
        rows = run.rows
        for reader, order in zip(waiting, orders):
            rows[reader] = (*rows[reader], *(("read", name) for name in order))
        yield Run(letters, rows)


def naive_ahead(run):
    """Return the set of all pairs of events of which the first one is ahead, found in the plainest way."""
    steps = {(row[at], row[at + 1]) for row in run.rows.values() for at in range(len(row) - 1)}
    return closed_steps(steps | {(("send", name), ("read", name)) for name in run.letters if name not in run.unread})


def given_steps(pattern, arrangement):
    """Return the set of the pairs of events of which the first one is given ahead of the other one [6.1]."""
    steps = set(pattern.conditions) | {(("send", name), ("read", name)) for name in pattern}
    return steps | {(row[at], row[at + 1]) for row in arrangement for at in range(len(row) - 1)}


def some_pattern(chance, many, conditions=2, groups=1, kinds=(None,)):
    """Return a pattern with so many letters, conditions that may be equal, and at most so many groups.

    It has at most 48 arrangements.
    """
    letters = {name: chance.choice(kinds) for name in "vwxyz"[-many:]}
    events = [(word, name) for word in ("send", "read") for name in letters]
    pairs = tuple((chance.choice(events), chance.choice(events)) for _ in range(conditions))
    rows = []
    left = chance.sample(events, len(events))
    for _ in range(groups):
        row, size = [], chance.randint(2, 4)
        for event in list(left):
            if len(row) < size and all(event[1] != other[1] for other in row):
                row.append(event)
                left.remove(event)
        if math.prod(math.factorial(len(group)) for group in (*rows, row)) <= 48:
            rows.append(tuple(row))
    return Pattern.of(letters, pairs, tuple(rows))


def many_patterns(seed, many=60, kinds=(None,), most=5):
    """Yield patterns of one to five letters, with and without groups."""
    chance = random.Random(seed)
    for at in range(many):
        yield some_pattern(chance, 1 + at % most, chance.randrange(5), chance.randrange(4), kinds)


class Case(unittest.TestCase):
    """A test case that looks at errors and at the examples of the document."""

    def fails(self, error, action, *parts, **more):
        """The call raises an error of exactly this class, which is returned."""
        with self.assertRaises(error) as held:
            action(*parts, **more)
        self.assertIs(type(held.exception), error, (action, parts, more))
        return held.exception

    def fails_with(self, error, value, action, *parts, **more):
        """The call raises an error of exactly this class, which keeps this value."""
        found = self.fails(error, action, *parts, **more)
        (kept,) = vars(found).values()
        self.assertIs(type(kept), type(value))
        self.assertEqual(kept, value)

    def same(self, found, wanted):
        """Both are equal and of one kind, also within tuples and dicts, whose keys stand in one order."""
        self.assertEqual(found, wanted)
        self.assertIs(type(found), type(wanted))
        if isinstance(wanted, tuple):
            for one, other in zip(found, wanted):
                self.same(one, other)
        if isinstance(wanted, dict):
            self.assertEqual(list(found), list(wanted))
            for key in wanted:
                self.same(found[key], wanted[key])

    def examples(self, text, names):
        """Every example in the text gives what it says."""
        example = doctest.DocTestParser().get_doctest(text, dict(names), "DOC.md", None, 0)
        self.assertTrue(example.examples)
        told = []
        result = doctest.DocTestRunner(verbose=False).run(example, out=told.append)
        self.assertEqual(result.failed, 0, "".join(told))
