"""What has happened in a play so far, and which steps are possible then."""

from letterrules.base.letters import are_names, is_letter, is_name
from letterrules.base.values import are_different
from letterrules.errors import InvalidName, InvalidOperation, TooMany
from letterrules.runs.runs import MAX_LETTERS, MAX_PROCESSES, Run

# For each step with a letter but the wish: the one that must be the last step of the letter so far.
LAST_STEPS = {"send": "wish", "come": "send", "read": "come"}


def first_views(processes):
    """Return the views of these processes without steps; refuse what is not a tuple of few different names."""
    if not are_names(processes):
        raise InvalidName("these are not names in a tuple")
    if not are_different(processes):
        raise InvalidOperation("two processes are equal")
    if len(processes) > MAX_PROCESSES:
        raise TooMany(MAX_PROCESSES)
    return {process: (("at", process),) for process in sorted(processes)}


class Course:
    """What has happened at the processes, and how far the letters have come. A course never changes.

    `views_by` has the views, `done` all that was done, `told` the wished letters, `stages` the word of the last step of
    each one.
    """

    def __init__(self, views_by, done, told, stages):
        self.views_by = views_by
        self.done = done
        self.told = {} if told is None else told
        self.stages = {} if stages is None else stages

    def letters_at(self, *words):
        """Return the letters whose last step has one of these words, ascending."""
        return tuple(sorted([letter for letter, word in self.stages.items() if word in words]))

    def can_be_wished(self, letter, parts):
        """Return whether a letter that is told by these parts can be wished."""
        if letter in self.told or len(self.told) >= MAX_LETTERS or not is_letter(parts):
            return False
        return parts[1] in self.views_by and parts[2] in self.views_by

    def run_so_far(self):
        """Return the run of the letters that have been sent."""
        letters = {letter: parts for letter, parts in self.told.items() if self.stages[letter] != "wish"}
        rows = {}
        for process, view in self.views_by.items():
            rows[process] = tuple([item for item in view if item[0] in ("send", "read")])
        return Run(letters, rows)


class State(Course):
    """The course of a play, with the state before the last step.

    `carried` has the marks of the letters that are sent.
    """

    def __init__(self, views_by, *, before=None, done=(), told=None, stages=None, carried=None):
        Course.__init__(self, views_by, done, told, stages)
        self.before = before
        self.carried = {} if carried is None else carried

    def place_of(self, step):
        """Return the process at which a possible step happens."""
        word, letter = step[0], step[1]
        _, sender, reader = step[2:] if word == "wish" else self.told[letter]
        return sender if word in ("wish", "send") else reader

    def is_possible(self, value):
        """Return whether a value is a step that is possible now."""
        if not isinstance(value, tuple) or not 2 <= len(value) or not is_name(value[1]):
            return False
        if value[0] == "wish":
            return self.can_be_wished(value[1], value[2:])
        if len(value) != 2 or value[0] not in ("send", "come", "read"):
            return False
        return self.stages.get(value[1]) == LAST_STEPS[value[0]]

    def after(self, step, mark):
        """Return the state behind a possible step; the mark is what a letter that is sent carries."""
        word, letter = step[0], step[1]
        place = self.place_of(step)
        told = {**self.told, letter: step[2:]} if word == "wish" else self.told
        carried = {**self.carried, letter: mark} if word == "send" else self.carried
        item = self._item(step)
        return State(
            {**self.views_by, place: (*self.views_by[place], item)}, before=self, done=(*self.done, step), told=told,
            stages={**self.stages, letter: word}, carried=carried,
        )

    def _item(self, step):
        """Return the item of a step in the view of its process."""
        word, letter = step[0], step[1]
        if word == "wish":
            return (word, letter, step[2], step[4])
        if word == "come":
            kind, sender, _ = self.told[letter]
            return (word, letter, kind, sender, self.carried[letter])
        return step
