"""A desk: rules under names, and a marking, with steps that can be taken back and made again."""

from letterrules.base.letters import is_name
from letterrules.base.trials import Trial
from letterrules.base.values import is_integer
from letterrules.desk.states import DeskState, scene_of
from letterrules.errors import (
    InvalidName, InvalidNumber, InvalidOperation, InvalidRule, NothingToUndo, TooMany, UnknownName,
)
from letterrules.marks.known import Marking, check_marking
from letterrules.marks.least import keeps, least_for
from letterrules.rules.breaks import breaks
from letterrules.rules.patterns import Rule, check_rule
from letterrules.runs.runs import check_run

MAX_RULES = 12


def _first_state(rules, marking):
    """Return the state of a desk without steps; refuse what are not few rules by names."""
    if not isinstance(rules, dict):
        raise InvalidRule("these are not rules by names")
    if not all([is_name(name) for name in rules]):
        raise InvalidName("a rule has a name that is none")
    if not all([isinstance(rule, Rule) for rule in rules.values()]):
        raise InvalidRule("there is something else than a rule")
    if len(rules) > MAX_RULES:
        raise TooMany(MAX_RULES)
    return DeskState(scene_of(rules, marking), (), ())


def _check_many(many, limit):
    """Refuse what is not a number of steps up to a limit."""
    if not is_integer(many) or many < 0:
        raise InvalidNumber(many)
    if many > limit:
        raise NothingToUndo(many)


def _can_be_keywords(rules):
    """Return whether a value is a dict that can be passed as the keywords of a desk."""
    return isinstance(rules, dict) and "self" not in rules and all([isinstance(name, str) for name in rules])


class Desk:
    """Rules under names, and a marking."""

    def __init__(self, **rules):
        self._state = _first_state(rules, Marking())

    @classmethod
    def of(cls, rules):
        """Return the desk with the rules that a dict tells by their names."""
        return Desk(**rules) if _can_be_keywords(rules) else TakenDesk(rules)

    @property
    def names(self):
        """The names of the rules, ascending."""
        return tuple(self._state.rules)

    @property
    def marking(self):
        """The marking."""
        return self._state.scene.chosen

    @property
    def answer(self):
        """The greatest of the answers to the rules."""
        return self._state.scene.greatest()

    @property
    def steps(self):
        """The number of steps that can be taken back."""
        return len(self._state.gone)

    def __call__(self, run):
        check_run(run)
        return tuple([name for name, rule in self._state.rules.items() if breaks(run, rule)])

    def put(self, name, rule):
        """Put in a rule under a name, and return the answer."""
        if not is_name(name):
            raise InvalidName("this is not a name")
        check_rule(rule)
        if name not in self and len(self) >= MAX_RULES:
            raise TooMany(MAX_RULES)
        return self._step_to(self._state.scene.with_rule(name, rule))

    def drop(self, name):
        """Drop the rule under a name, and return the answer."""
        self._check_rule_at(name)
        return self._step_to(self._state.scene.without_rule(name))

    def choose(self, marking):
        """Choose a marking, and return the answer."""
        check_marking(marking)
        return self._step_to(self._state.scene.with_marking(marking))

    def kept(self):
        """Return the names of the rules that the marking keeps, ascending."""
        return tuple([name for name, rule in self._state.rules.items() if keeps(rule, self.marking)])

    def least(self):
        """Return the least markings that keep all rules which some marking keeps."""
        scene = self._state.scene
        kept = [rule for name, rule in scene.rules.items() if scene.answers[name] not in ("letters", "never")]
        return least_for([pattern for rule in kept for pattern in rule.patterns])

    def undo(self, many=1):
        """Take back the last steps, and return the answer."""
        _check_many(many, len(self._state.gone))
        self._state = self._state.moved(-many)
        return self.answer

    def redo(self, many=1):
        """Make again the last steps that were taken back, and return the answer."""
        _check_many(many, len(self._state.undone))
        self._state = self._state.moved(many)
        return self.answer

    def trial(self):
        """Return a block in which steps can be made and taken back, and behind which all is as before."""
        return Trial(self)

    def during(self, action):
        """Return what a function of the desk returns in such a block."""
        with self.trial() as same:
            return action(same)

    def twin(self):
        """Return an independent desk in the same state."""
        made = Desk()
        made._state = self._state
        return made

    def joined(self, other):
        """Return a desk, without steps, with the rules of both and the join of their markings."""
        if not isinstance(other, Desk):
            raise InvalidOperation("this is not a desk")
        rules, further = self._state.rules, other._state.rules
        if any([name in rules and rules[name] != rule for name, rule in further.items()]):
            raise InvalidOperation("both have unlike rules under one name")
        made = Desk()
        made._state = _first_state({**rules, **further}, self.marking | other.marking)
        return made

    def __getitem__(self, at):
        self._check_rule_at(at)
        return self._state.rules[at]

    def __contains__(self, x):
        return is_name(x) and x in self._state.rules

    def __len__(self):
        return len(self._state.rules)

    def __iter__(self):
        return iter(self._state.rules)

    def __eq__(self, other):
        return isinstance(other, Desk) and self._state.rules == other._state.rules and self.marking == other.marking

    def __str__(self):
        return f"desk with {len(self)} rules, answer {self.answer}"

    def _check_rule_at(self, name):
        """Refuse what is not the name of a rule."""
        if name not in self:
            raise UnknownName(name)

    def _step_to(self, scene):
        """Make the step to a scene, and return the answer."""
        self._state = self._state.behind(scene)
        return self.answer


class TakenDesk(Desk):
    """A desk with a rule whose name is taken by a parameter, so that it cannot be passed as a keyword."""

    def __init__(self, rules):
        self._state = _first_state(rules, Marking())
