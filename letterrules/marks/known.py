"""Markings, and what processes know by them."""

from letterrules.base.letters import is_name
from letterrules.base.masks import places_in
from letterrules.base.values import are_different, is_integer
from letterrules.errors import InvalidMarking, InvalidName, InvalidNumber, InvalidOperation, UnknownName
from letterrules.runs.runs import check_run

WORDS = ("nothing", "numbers", "notes")


def check_marking(marking):
    """Refuse what is not a marking."""
    if not isinstance(marking, Marking):
        raise InvalidMarking("this is not a marking")


def _check_words(words):
    """Refuse what is not a dict from kinds to words."""
    if not isinstance(words, dict) or not all([is_name(kind) for kind in words]):
        raise InvalidMarking("these are not words by kinds")
    if not all([word in WORDS for word in words.values()]):
        raise InvalidMarking("a word is none of those that tell what letters carry")


def _kept_words(words):
    """Return the words of the kinds, ascending, that have another one than all others have; and that of the others."""
    _check_words(words)
    other = words.get("other", WORDS[0])
    return {kind: words[kind] for kind in sorted(words) if words[kind] != other}, other


def is_less(word, other):
    """Return whether what one word tells is less than what another one does."""
    return WORDS.index(word) < WORDS.index(other)


class Marking:
    """What the letters of each kind carry. A marking never changes."""

    def __init__(self, *, other="nothing", **kinds):
        self._words, self._rest = _kept_words({**kinds, "other": other})

    @classmethod
    def of(cls, words):
        """Return the marking with the words that a dict tells by kinds, perhaps with that of "other"."""
        _check_words(words)
        return TakenMarking(words) if "self" in words else Marking(**words)

    @classmethod
    def even(cls, word):
        """Return the marking that gives all kinds one word."""
        return Marking(other=word)

    @property
    def other(self):
        """The word of all kinds that are not told otherwise."""
        return self._rest

    @property
    def kinds(self):
        """The kinds with another word, ascending."""
        return tuple(self._words)

    def word_of(self, kind):
        """Return the word of a kind, which is not checked."""
        return self._words.get(kind, self._rest)

    def with_word(self, kind, word):
        """Return the marking with another word for a kind, or for all kinds that are not told otherwise."""
        if not is_name(kind):
            raise InvalidName("this is not a kind")
        return Marking.of({**self._words, "other": self._rest, kind: word})

    def is_at_most(self, value):
        """Return whether a value is a marking by which no kind carries less than by this one."""
        if not isinstance(value, Marking):
            return False
        kinds = (*self._words, *value.kinds, "other")
        return not any([is_less(value.word_of(kind), self.word_of(kind)) for kind in kinds])

    def __getitem__(self, at):
        if not is_name(at):
            raise InvalidName("this is not a kind")
        return self.word_of(at)

    def __or__(self, other):
        kinds = _kinds_of_both(self, other)
        pairs = [(kind, self.word_of(kind), other.word_of(kind)) for kind in kinds]
        return Marking.of({kind: last if is_less(word, last) else word for kind, word, last in pairs})

    def __and__(self, other):
        kinds = _kinds_of_both(self, other)
        pairs = [(kind, self.word_of(kind), other.word_of(kind)) for kind in kinds]
        return Marking.of({kind: word if is_less(word, last) else last for kind, word, last in pairs})

    def __len__(self):
        return len(self._words)

    def __iter__(self):
        return iter(self._words)

    def __eq__(self, other):
        return isinstance(other, Marking) and self.is_at_most(other) and other.is_at_most(self)

    def __str__(self):
        return ", ".join([*[f"{kind} {word}" for kind, word in self._words.items()], f"other {self._rest}"])


class TakenMarking(Marking):
    """A marking with a kind whose name is taken by a parameter, so that it cannot be passed as a keyword."""

    def __init__(self, words):
        self._words, self._rest = _kept_words(words)


def _kinds_of_both(one, other):
    """Return the kinds that one of two markings tells, and "other"; refuse what is not a marking."""
    if not isinstance(other, Marking):
        raise InvalidOperation("this is not a marking")
    return (*one.kinds, *other.kinds, "other")


def check_whole(run, marking):
    """Refuse what is not a whole run and a marking."""
    check_run(run)
    check_marking(marking)
    if not run.is_whole:
        raise InvalidOperation("a letter is not read")


def _check_place(run, process, place):
    """Refuse what is not a process of a run and a place in its row."""
    rows = run.rows
    if not is_name(process) or process not in rows:
        raise UnknownName(process)
    if not is_integer(place) or not 0 <= place < len(rows[process]):
        raise InvalidNumber(place)


def _all_known(run, marking):
    """Return for each event the mask of the places, among all letters, of those that its process knows there."""
    letters, rows = run.letters, run.rows
    places = {letter: at for at, letter in enumerate(letters)}
    known_at = {}
    sent_at = {}
    for event in run.order:
        word, letter = event
        process, at = run.place(event)
        front = rows[process][at - 1] if at > 0 else None
        mask = known_at.get(front, 0) | (1 << places[letter])
        sent_at[event] = sent_at.get(front, 0)
        if word == "send":
            sent_at[event] = sent_at[event] | (1 << places[letter])
        elif marking.word_of(letters[letter][0]) == "notes":
            mask = mask | known_at[("send", letter)]
        elif marking.word_of(letters[letter][0]) == "numbers":
            mask = mask | sent_at[("send", letter)]
        known_at[event] = mask
    return known_at


def known(run, marking, process, place):
    """Return the letters that a process knows at the event with a place in its row, ascending."""
    check_run(run)
    check_marking(marking)
    _check_place(run, process, place)
    letters = tuple(run.letters)
    mask = _all_known(run, marking)[run.rows[process][place]]
    return tuple([letters[at] for at in places_in(mask)])


def _is_sent_behind(run, letter, other):
    """Return whether the other letter is sent by the same process behind this one."""
    (process, at), (sender, place) = run.place(("send", letter)), run.place(("send", other))
    return process == sender and at < place


def _is_step(run, letter, other):
    """Return whether a letter is read by the sender of the other one in front of that sending."""
    if ("read", letter) not in run:
        return False
    (reader, at), (sender, place) = run.place(("read", letter)), run.place(("send", other))
    return reader == sender and at < place


def _can_begin(run, marking, letter, other):
    """Return whether a trail of a letter that its sender has not read off can begin with the other one."""
    if other == letter:
        return True
    carried = marking.word_of(run.letters[other][0])
    return carried != "nothing" and _is_sent_behind(run, letter, other)


def _check_trail(run, marking, letter, process, place):
    """Refuse what is not a letter and an event of a run, and a marking."""
    check_run(run)
    check_marking(marking)
    if not is_name(letter) or letter not in run.letters:
        raise UnknownName(letter)
    _check_place(run, process, place)


def _path_to(run, marking, letter, row):
    """Return a trail of a letter that ends with one that is read in a row, or None."""
    noted = [name for name, parts in run.letters.items() if marking.word_of(parts[0]) == "notes"]
    paths = [(name,) for name in run.letters if _can_begin(run, marking, letter, name)]
    seen = {path[0]: True for path in paths}
    while paths:
        longer = []
        for path in paths:
            if ("read", path[-1]) in row:
                return path
            for name in noted:
                if name not in seen and _is_step(run, path[-1], name):
                    seen[name] = True
                    longer.append((*path, name))
        paths = longer
    return None


def trail(run, marking, letter, process, place):
    """Return a trail of a letter to the event with a place in a row, or None."""
    _check_trail(run, marking, letter, process, place)
    row = run.rows[process][:place + 1]
    return () if ("send", letter) in row else _path_to(run, marking, letter, row)


def is_trail(run, marking, letter, process, place, value):
    """Return whether a value is such a trail."""
    _check_trail(run, marking, letter, process, place)
    letters = run.letters
    if not isinstance(value, tuple) or not all([is_name(part) and part in letters for part in value]):
        return False
    row = run.rows[process][:place + 1]
    if ("send", letter) in row or not value:
        return ("send", letter) in row and not value
    if not are_different(value) or not _can_begin(run, marking, letter, value[0]):
        return False
    if not all([marking.word_of(letters[name][0]) == "notes" for name in value[1:]]):
        return False
    return all([_is_step(run, one, other) for one, other in zip(value, value[1:])]) and ("read", value[-1]) in row


def is_calm(run, marking):
    """Return whether a whole run is calm for a marking."""
    return uncalm(run, marking) is None


def uncalm(run, marking):
    """Return a letter of a whole run with a place at which its reader knows it too early, or None."""
    check_whole(run, marking)
    known_at = _all_known(run, marking)
    letters = tuple(run.letters)
    for process, row in run.rows.items():
        coming = [(letter, run.place(("read", letter))[1]) for letter in letters if run.letters[letter][2] == process]
        for place, event in enumerate(row):
            for letter, end in coming:
                if place < end and (known_at[event] >> letters.index(letter)) & 1:
                    return (letter, place)
    return None


def is_uncalm(run, marking, value):
    """Return whether a value is such a pair."""
    check_whole(run, marking)
    if not isinstance(value, tuple) or len(value) != 2:
        return False
    letter, place = value
    if not is_name(letter) or letter not in run.letters:
        return False
    process, end = run.place(("read", letter))
    if not is_integer(place) or not 0 <= place < end:
        return False
    return letter in known(run, marking, process, place)
