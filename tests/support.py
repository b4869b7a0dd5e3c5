"""What several tests use."""

import doctest
import unittest

from letterrules.base.orders import Order

HUGE = 10 ** 39
DEEP = (((((((((("a",),),),),),),),),),)

# One value of each kind that [0.4] names; tests take those that are wrong for a parameter.
VALUES = (
    0, 1, 7, -1, HUGE, -HUGE, True, False, None,
    "", "a", "abcdefgh", "abcdefghi", "A", "a b", "a\n", "send", "all", "%s", "x" * 10000,
    (), ("a",), ("a", "b"), ("a", "b", "c"), ("send", "a"), ("send", "a", "b"), (("send", "a"),), (1, 2), (True,),
    [], ["a"], ["send", "a"], [[]], {}, {"a": "b"}, {1: []}, {("a", "b"): {}}, ({},), ([],), ((), [{}]), DEEP,
    Order(("a", "b")), (Order(()),), [Order(("a",), )], {"x": Order(())},
)


class Case(unittest.TestCase):
    """A test case that looks at errors and at the examples of the document."""

    def fails(self, error, action, *parts, **more):
        """The call raises an error of exactly this class, which is returned."""
        with self.assertRaises(error) as held:
            action(*parts, **more)
        self.assertIs(type(held.exception), error, (action, parts, more))
        return held.exception

    def fails_with(self, error, value, action, *parts, **more):
        """The call raises an error of exactly this class, which keeps this value."""
        found = self.fails(error, action, *parts, **more)
        (kept,) = vars(found).values()
        self.assertIs(type(kept), type(value))
        self.assertEqual(kept, value)

    def same(self, found, wanted):
        """Both are equal and of one kind, also within tuples and dicts, whose keys stand in one order."""
        self.assertEqual(found, wanted)
        self.assertIs(type(found), type(wanted))
        if isinstance(wanted, tuple):
            for one, other in zip(found, wanted):
                self.same(one, other)
        if isinstance(wanted, dict):
            self.assertEqual(list(found), list(wanted))
            for key in wanted:
                self.same(found[key], wanted[key])

    def examples(self, text, names):
        """Every example in the text gives what it says."""
        example = doctest.DocTestParser().get_doctest(text, dict(names), "DOC.md", None, 0)
        self.assertTrue(example.examples)
        told = []
        result = doctest.DocTestRunner(verbose=False).run(example, out=told.append)
        self.assertEqual(result.failed, 0, "".join(told))
