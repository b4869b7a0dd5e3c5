"""[0.1], [0.7], [0.8], [1.1]: names, events, letters and new names."""

import unittest

from letterrules.base.letters import is_event, is_letter, is_name, new_names, other_event
from letterrules.errors import InvalidName, InvalidNumber
from support import HUGE, VALUES, Case


class NameTests(Case):
    def test_names(self):
        for value in ("a", "z", "az", "abcdefgh", "other", "send", "zzzzzzzz"):
            self.assertIs(is_name(value), True, value)

    def test_no_names(self):
        for value in ("", "abcdefghi", "A", "aB", "a1", "1", "a_b", " a", "a ", "a\n", "\n", "a-b", "\xe4", "\xdf",
                      "\u0131", "a\u0301"):
            self.assertIs(is_name(value), False, value)

    def test_other_kinds(self):
        for value in VALUES:
            wanted = isinstance(value, str) and value in ("a", "abcdefgh", "send", "all")
            self.assertIs(is_name(value), wanted, value)
        self.assertIs(is_name(b"a"), False)


class EventTests(Case):
    def test_events(self):
        for value in (("send", "a"), ("read", "a"), ("read", "abcdefgh"), ("send", "send")):
            self.assertIs(is_event(value), True, value)

    def test_no_events(self):
        for value in (["send", "a"], ("send",), ("send", "a", "a"), ("come", "a"), ("Send", "a"), ("a", "send"),
                      ("send", ""), ("send", "A"), ("send", 1), ("send", None), (True, "a"), ("read", ("a",)),
                      (("send",), "a"), (["send"], "a"), ({}, "a"), ("send", ["a"]), "send", {"send": "a"}, ()):
            self.assertIs(is_event(value), False, value)

    def test_every_value(self):
        for value in VALUES:
            self.assertIs(is_event(value), value == ("send", "a") and isinstance(value, tuple), value)
            self.assertIs(is_letter(value), isinstance(value, tuple) and value in (("a", "b", "c"), ("send", "a", "b")))

    def test_other_event(self):
        self.same(other_event(("send", "a")), ("read", "a"))
        self.same(other_event(("read", "send")), ("send", "send"))

    def test_other_event_errors(self):
        for value in VALUES:
            if not is_event(value):
                self.fails(InvalidName, other_event, value)


class LetterTests(Case):
    def test_letters(self):
        for value in (("order", "p", "q"), ("other", "q", "p"), ("p", "p", "q"), ("q", "p", "q")):
            self.assertIs(is_letter(value), True, value)

    def test_no_letters(self):
        for value in (("order", "p", "p"), ["order", "p", "q"], ("order", "p"), ("order", "p", "q", "r"), ("", "p", "q"),
                      ("order", "P", "q"), ("order", "p", 1), (None, "p", "q"), ("order", ["p"], "q"), "abc",
                      ("order", True, False), ("abcdefghi", "p", "q"), {"order": 1, "p": 2, "q": 3}):
            self.assertIs(is_letter(value), False, value)


class NewNameTests(Case):
    def test_few(self):
        self.same(new_names(0), ())
        self.same(new_names(3), ("a", "b", "c"))
        self.same(new_names(0, without=("a",)), ())

    def test_step_from_z(self):
        self.same(new_names(29)[24:], ("y", "z", "aa", "ab", "ac"))
        self.same(new_names(54)[50:], ("ay", "az", "ba", "bb"))

    def test_most(self):
        names = new_names(500)
        self.assertEqual(len(set(names)), 500)
        self.assertEqual(list(names), sorted(names, key=lambda name: (len(name), name)))
        self.assertTrue(all(is_name(name) for name in names))
        self.assertEqual(names[-1], "sf")

    def test_without(self):
        self.same(new_names(2, without=("b",)), ("a", "c"))
        self.same(new_names(3, without=("b", "a", "b", "zz", "b")), ("c", "d", "e"))
        self.same(new_names(2, without=new_names(500)), ("sg", "sh"))
        many = new_names(500)
        self.same(new_names(500, without=many + new_names(500, without=many))[0], "alm")

    def test_error_of_many(self):
        for value in (-1, 501, HUGE, -HUGE, True, False, None, "1", (), (1,), [], {}, [1]):
            self.fails_with(InvalidNumber, value, new_names, value)

    def test_error_of_without(self):
        for value in VALUES:
            right = isinstance(value, tuple) and all(is_name(part) for part in value)
            if right:
                new_names(1, without=value)
            else:
                self.fails(InvalidName, new_names, 1, without=value)
        self.fails(InvalidName, new_names, 0, without=("a", "A"))
        self.fails(InvalidName, new_names, 0, without=["a"])

    def test_first_error_counts(self):
        self.fails_with(InvalidNumber, True, new_names, True, without=5)
        self.fails_with(InvalidNumber, -HUGE, new_names, -HUGE, without=("A",))


if __name__ == "__main__":
    unittest.main()
