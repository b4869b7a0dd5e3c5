"""The head of "The interface": every name stands in its module, with its parameters, and methods in their class."""

import importlib
import inspect
import unittest

FUNCTIONS = {
    "letterrules.base.letters": """is_name(value) is_event(value) is_letter(value) other_event(event)
        new_names(many,*,without=())""",
    "letterrules.base.orders": "ring_of(things,pairs) is_ring(things,pairs,value)",
    "letterrules.runs.runs": "event_orders(run) is_event_order(run,value)",
    "letterrules.runs.sets": """set_of(run) is_in(run,among) bar(run,among) is_bar(run,among,value)
        next_bar(run,among,value) late_letters(run) all_pairs(run) shortest_crown(run) letter_row(run)
        is_letter_row(run,value)""",
    "letterrules.rules.patterns": "arrangements(pattern) is_arrangement(pattern,value)",
    "letterrules.rules.breaks": """placings(run,pattern) is_placing(run,pattern,value) breaks(run,rule)
        first_break(run,rule) broken_patterns(run,rule) arrangement_of(run,pattern,placing) blamed(run,rule)""",
    "letterrules.own.orders": """own_orders(pattern) ring_in(pattern,arrangement) is_ring_in(pattern,arrangement,value)
        pair_in(order) late_in(order) crown_in(order) is_pair_in(order,value) is_late_in(order,value)
        is_crown_in(order,value)""",
    "letterrules.own.ownruns": """own_run(order,*,kinds=None,helper='other') is_own_run(order,value)
        own_runs(rule,among) held_order(run,pattern,placing) is_held(run,order,value)""",
    "letterrules.answers.answers": """answer(rule) pattern_answer(pattern) kept_paper(rule,among)
        is_kept_paper(rule,among,value) breaking_paper(rule,among) is_breaking_paper(rule,among,value)
        answer_paper(rule) is_answer_paper(rule,value) hardest(rule) needed(pattern) answers_without(pattern)
        sort_for(among) set_for(sort)""",
}
METHODS = {
    ("letterrules.base.orders", "Order"): """__init__(self,things,*pairs) of(things,pairs) line(things)
        __call__(self,one,other) past(self,thing) future(self,thing) only(self,things) is_within(self,value) lines(self)
        is_line(self,value)""",
    ("letterrules.runs.runs", "Run"): """__init__(self,letters,rows) __call__(self,event,other) place(self,event)
        past(self,*events) until(self,*events) only(self,*letters) without(self,*letters) with_processes(self,**names)
        with_kinds(self,**names) with_letters(self,**names) with_processes_by(self,names) with_kinds_by(self,names)
        with_letters_by(self,names) mirrored(self)""",
    ("letterrules.rules.patterns", "Pattern"): """__init__(self,*,conditions=(),groups=(),**letters)
        of(letters,conditions,groups) with_letter(self,name,*kinds) without_letter(self,letter)
        with_condition(self,event,other) without_condition(self,event,other) with_group(self,*events)
        without_group(self,event) renamed(self,names)""",
    ("letterrules.rules.patterns", "Rule"): "__init__(self,*patterns) of(patterns) without(self,*indices)",
    ("letterrules.own.orders", "OwnOrder"): """__init__(self,pattern,arrangement) __call__(self,event,other)
        between(self,event,other) all_rows(self) is_within(self,value)""",
}
SIGNS = {
    "Order": "or invert eq str len iter contains", "Run": "add eq str len iter contains",
    "Pattern": "and eq str len iter contains", "Rule": "or eq str len iter contains getitem",
    "OwnOrder": "eq str len iter contains getitem",
}
PROPERTIES = {
    "Order": "things pairs next_pairs firsts lasts", "Run": "letters rows processes order unread is_whole",
    "Pattern": "letters conditions groups kinds", "Rule": "patterns kinds",
    "OwnOrder": "pattern arrangement events next_pairs run_set",
}


def signature(function):
    return str(inspect.signature(function)).replace(" ", "")


def told(text):
    """Return pairs of a name and its parameters."""
    return [(word[:word.index("(")], word[word.index("("):]) for word in text.split()]


class InterfaceTests(unittest.TestCase):
    def test_functions(self):
        for name, text in FUNCTIONS.items():
            module = importlib.import_module(name)
            for function, parameters in told(text):
                found = getattr(module, function)
                self.assertEqual((found.__module__, found.__name__), (name, function))
                self.assertEqual(signature(found), parameters, function)

    def test_methods(self):
        for (name, title), text in METHODS.items():
            found = getattr(importlib.import_module(name), title)
            self.assertEqual(found.__module__, name)
            for method, parameters in told(text):
                self.assertIn(method, vars(found))
                self.assertEqual(signature(getattr(found, method)), parameters, (title, method))
            for sign in SIGNS[title].split():
                self.assertIn(f"__{sign}__", vars(found))
            for word in PROPERTIES[title].split():
                self.assertIsInstance(vars(found)[word], property)


if __name__ == "__main__":
    unittest.main()
