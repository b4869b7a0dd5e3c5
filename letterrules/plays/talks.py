"""What has happened in a talk play so far, and what can happen then."""

from letterrules.base.letters import is_name
from letterrules.base.values import is_integer
from letterrules.errors import InvalidOperation
from letterrules.plays.states import LAST_STEPS, Course


class TalkState(Course):
    """The course of a talk play.

    `done` has the moves, `happened` the process and the item of each of them. `words` has the letters of the talker's
    own, by their numbers, as triples of the sender, the reader and the word; `unheard` has the numbers of those that
    have not come.
    """

    def __init__(self, views_by, *, done=(), happened=(), told=None, stages=None, words=(), unheard=None):
        Course.__init__(self, views_by, done, told, stages)
        self.happened = happened
        self.words = words
        self.unheard = {} if unheard is None else unheard

    def after(self, move, process, item):
        """Return the state behind a move by which the view of a process has one item more."""
        word, name = item[0], item[1]
        told, stages, words, unheard = self.told, self.stages, self.words, self.unheard
        if word == "tell":
            unheard = {**unheard, len(words): True}
            words = words + ((process, name, item[2]),)
        elif word == "told":
            unheard = {number: True for number in unheard if number != move[1]}
        else:
            stages = {**stages, name: word}
        if word == "wish":
            told = {**told, name: move[2:]}
        return TalkState(
            {**self.views_by, process: self.views_by[process] + (item,)}, done=self.done + (move,),
            happened=self.happened + ((process, item),), told=told, stages=stages, words=words, unheard=unheard,
        )

    def taken_back(self):
        """Return the state in front of the last move."""
        process, item = self.happened[-1]
        word, name = item[0], item[1]
        told, stages, words, unheard = self.told, self.stages, self.words, self.unheard
        if word == "tell":
            words = words[:-1]
            unheard = {number: True for number in unheard if number != len(words)}
        elif word == "told":
            unheard = {**unheard, self.done[-1][1]: True}
        elif word == "wish":
            told = {letter: parts for letter, parts in told.items() if letter != name}
            stages = {letter: last for letter, last in stages.items() if letter != name}
        else:
            stages = {**stages, name: LAST_STEPS[word]}
        return TalkState(
            {**self.views_by, process: self.views_by[process][:-1]}, done=self.done[:-1],
            happened=self.happened[:-1], told=told, stages=stages, words=words, unheard=unheard,
        )

    def come_of(self, letter):
        """Return the process and the item of the coming of a letter under way."""
        kind, sender, reader = self.told[letter]
        return reader, ("come", letter, kind, sender)

    def heard_of(self, number):
        """Return the process and the item of the coming of a letter of the talker's own."""
        sender, reader, word = self.words[number]
        return reader, ("told", sender, word)

    def is_pending(self, process, item):
        """Return whether a letter can be sent, or read, at a process."""
        word, letter = item
        if self.stages.get(letter) != LAST_STEPS[word]:
            return False
        _, sender, reader = self.told[letter]
        return process == (sender if word == "send" else reader)


def told_at(talker, state, process):
    """Return what a talker tells a process to do next, or None."""
    view = state.views_by[process]
    return talker(view) if len(view) > 1 else None


def happening(talker, state, value):
    """Return the process and the item of a move, or None if a value is no possible move."""
    if not isinstance(value, tuple) or len(value) < 2:
        return None
    word, name = value[0], value[1]
    if word == "wish" and is_name(name) and state.can_be_wished(name, value[2:]):
        return value[3], (word, name, value[2], value[4])
    if len(value) != 2:
        return None
    if word == "come" and is_name(name) and state.stages.get(name) == "send":
        return state.come_of(name)
    if word == "hear" and is_integer(name) and name in state.unheard:
        return state.heard_of(name)
    if word != "act" or not is_name(name) or name not in state.views_by:
        return None
    item = told_at(talker, state, name)
    return None if item is None else (name, item)


def _is_named(view, other):
    """Return whether a view names another process."""
    for item in view:
        if item[0] in ("wish", "come") and item[3] == other:
            return True
        if item[0] == "told" and item[1] == other:
            return True
    return False


def _can_be_done(state, process, item):
    """Return whether a process can do what the talker tells."""
    if item[0] == "tell":
        return _is_named(state.views_by[process], item[1])
    return state.is_pending(process, item)


def state_behind(state, move, process, item):
    """Return the state behind a possible move that does this; refuse an act that cannot be done."""
    if move[0] == "act" and not _can_be_done(state, process, item):
        raise InvalidOperation("the act cannot be done")
    return state.after(move, process, item)


def some_move(talker, state, idle):
    """Return a possible move, but no wish, with the process and the item of what it does; or None.

    `idle` has the lengths of the views with which processes had nothing to do. It is kept up.
    """
    number = next(iter(state.unheard), None)
    if number is not None:
        return ("hear", number), *state.heard_of(number)
    letters = state.letters_at("send")
    if letters:
        return ("come", letters[0]), *state.come_of(letters[0])
    for process, view in state.views_by.items():
        if idle.get(process) != len(view):
            item = told_at(talker, state, process)
            if item is not None:
                return ("act", process), process, item
            idle[process] = len(view)
    return None


def is_at_rest(talker, state):
    """Return whether nothing is under way and no act is possible."""
    return some_move(talker, state, {}) is None


def state_at_rest(talker, state, most):
    """Return the state behind possible moves, but no wishes, until it rests, or behind so many of them."""
    idle = {}
    for _ in range(most):
        found = some_move(talker, state, idle)
        if found is None:
            return state
        state = state_behind(state, *found)
    return state
