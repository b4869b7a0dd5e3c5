"""What lies on a desk, and the steps that led there."""

from letterrules.answers.answers import ANSWERS, answer


class Scene:
    """Rules by ascending names, their answers, and a marking. A scene never changes."""

    def __init__(self, rules, answers, chosen):
        self.rules = rules
        self.answers = answers
        self.chosen = chosen

    def with_rule(self, name, rule):
        """Return the scene with a rule under a name."""
        rules = {**self.rules, name: rule}
        answers = {**self.answers, name: answer(rule)}
        return Scene({one: rules[one] for one in sorted(rules)}, answers, self.chosen)

    def without_rule(self, name):
        """Return the scene without the rule under a name."""
        rules = {one: rule for one, rule in self.rules.items() if one != name}
        return Scene(rules, {one: self.answers[one] for one in rules}, self.chosen)

    def with_marking(self, marking):
        """Return the scene with another marking."""
        return Scene(self.rules, self.answers, marking)

    def greatest(self):
        """Return the greatest of the answers."""
        return ANSWERS[max([ANSWERS.index(found) for found in self.answers.values()], default=0)]


def scene_of(rules, marking):
    """Return the scene with rules by names and a marking."""
    names = sorted(rules)
    return Scene({name: rules[name] for name in names}, {name: answer(rules[name]) for name in names}, marking)


class DeskState:
    """The scene of a desk, the scenes in front of its steps, and those behind the steps that were taken back.

    A state never changes.
    """

    def __init__(self, scene, gone, undone):
        self.scene = scene
        self.rules = scene.rules
        self.gone = gone
        self.undone = undone

    def behind(self, scene):
        """Return the state behind a step to a scene."""
        return DeskState(scene, (*self.gone, self.scene), ())

    def moved(self, many):
        """Return the state behind so many steps that are made again, or taken back, if the number is negative."""
        line = (*self.gone, self.scene, *self.undone)
        at = len(self.gone) + many
        return DeskState(line[at], line[:at], line[at + 1:])
