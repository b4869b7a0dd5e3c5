"""The head of "The interface": every name stands in its module, with its parameters, and methods in their class."""

import importlib
import inspect
import unittest

FUNCTIONS = {
    "letterrules.base.letters": """is_name(value) is_event(value) is_letter(value) other_event(event)
        new_names(many,*,without=())""",
    "letterrules.base.orders": "ring_of(things,pairs) is_ring(things,pairs,value)",
    "letterrules.runs.runs": "event_orders(run) is_event_order(run,value)",
    "letterrules.runs.sets": """set_of(run) is_in(run,among) bar(run,among) is_bar(run,among,value)
        next_bar(run,among,value) late_letters(run) all_pairs(run) shortest_crown(run) letter_row(run)
        is_letter_row(run,value)""",
    "letterrules.rules.patterns": "arrangements(pattern) is_arrangement(pattern,value)",
    "letterrules.rules.breaks": """placings(run,pattern) is_placing(run,pattern,value) breaks(run,rule)
        first_break(run,rule) broken_patterns(run,rule) arrangement_of(run,pattern,placing) blamed(run,rule)""",
    "letterrules.own.orders": """own_orders(pattern) ring_in(pattern,arrangement) is_ring_in(pattern,arrangement,value)
        pair_in(order) late_in(order) crown_in(order) is_pair_in(order,value) is_late_in(order,value)
        is_crown_in(order,value)""",
    "letterrules.own.ownruns": """own_run(order,*,kinds=None,helper='other') is_own_run(order,value)
        own_runs(rule,among) held_order(run,pattern,placing) is_held(run,order,value)""",
    "letterrules.answers.answers": """answer(rule) pattern_answer(pattern) kept_paper(rule,among)
        is_kept_paper(rule,among,value) breaking_paper(rule,among) is_breaking_paper(rule,among,value)
        answer_paper(rule) is_answer_paper(rule,value) hardest(rule) needed(pattern) answers_without(pattern)
        sort_for(among) set_for(sort)""",
    "letterrules.answers.follows": """cases(pattern,*,among='all') maps(pattern,other,arrangement,choice)
        follows(rule,other,*,among='all') are_alike(rule,other,*,among='all') follow_paper(rule,other,*,among='all')
        is_follow_paper(rule,other,value,*,among='all') core(rule,*,among='all') is_core(rule,value,*,among='all')
        idle_conditions(pattern)""",
    "letterrules.marks.known": """known(run,marking,process,place) trail(run,marking,letter,process,place)
        is_trail(run,marking,letter,process,place,value) is_calm(run,marking) uncalm(run,marking)
        is_uncalm(run,marking,value)""",
    "letterrules.plays.standard": """silent() numbered() noted() marked(marking) known_by(view) blocking(view,letter)
        played(transport,run) first_held(transport,run)""",
    "letterrules.drive.drivers": """drive(run,transport,*,most=1000) is_drive_paper(run,transport,value,*,most=1000)
        seen_part(run,marking,event) beat(rule,transport,*,most=1000) is_beat_paper(rule,transport,value,*,most=1000)""",
    "letterrules.watch.watchers": """completions(run,*,among='all') watch_paper(run,rule,*,among='all')
        is_watch_paper(run,rule,value,*,among='all')""",
    "letterrules.text.formats": """format_pattern(pattern) format_rule(rule) format_run(run) format_marking(marking)
        format_placing(placing) format_steps(steps) parse_pattern(text) parse_rule(text) parse_run(text)
        parse_marking(text) parse_placing(text) parse_steps(text)""",
    "letterrules.marks.least": """ways(order) is_way(order,value) demand(order,way) keeps(rule,marking)
        keeping_paper(rule,marking) is_keeping_paper(rule,marking,value) breaking_run(rule,marking)
        is_breaking_run(rule,marking,value) least_markings(rule) cheapest(rule,prices)""",
}
METHODS = {
    ("letterrules.base.orders", "Order"): """__init__(self,things,*pairs) of(things,pairs) line(things)
        __call__(self,one,other) past(self,thing) future(self,thing) only(self,things) is_within(self,value) lines(self)
        is_line(self,value)""",
    ("letterrules.runs.runs", "Run"): """__init__(self,letters,rows) __call__(self,event,other) place(self,event)
        past(self,*events) until(self,*events) only(self,*letters) without(self,*letters) with_processes(self,**names)
        with_kinds(self,**names) with_letters(self,**names) with_processes_by(self,names) with_kinds_by(self,names)
        with_letters_by(self,names) mirrored(self)""",
    ("letterrules.rules.patterns", "Pattern"): """__init__(self,*,conditions=(),groups=(),**letters)
        of(letters,conditions,groups) with_letter(self,name,*kinds) without_letter(self,letter)
        with_condition(self,event,other) without_condition(self,event,other) with_group(self,*events)
        without_group(self,event) renamed(self,names)""",
    ("letterrules.rules.patterns", "Rule"): "__init__(self,*patterns) of(patterns) without(self,*indices)",
    ("letterrules.own.orders", "OwnOrder"): """__init__(self,pattern,arrangement) __call__(self,event,other)
        between(self,event,other) all_rows(self) is_within(self,value)""",
    ("letterrules.marks.known", "Marking"): """__init__(self,*,other='nothing',**kinds) of(words) even(word)
        with_word(self,kind,word) is_at_most(self,value)""",
    ("letterrules.plays.plays", "Transport"): """__init__(self,marking,*,may_send=None,may_read=None,number=None,note=None)
        lets_send(self,view,letter) lets_read(self,view,letter) mark_of(self,view,letter,kind,reader)""",
    ("letterrules.plays.plays", "Play"): """__init__(self,transport,*processes) of(transport,processes) run(self)
        is_quiet(self) is_still(self) view(self,process) mark(self,letter) do(self,step) do_all(self,steps)
        wish(self,letter,kind,sender,reader) send(self,letter) come(self,letter) read(self,letter) may(self,value)
        next_steps(self) back(self,*,many=1) trial(self) attempt(self,action) twin(self)""",
    ("letterrules.plays.talkers", "Talker"): "__init__(self,step) asking() __call__(self,view)",
    ("letterrules.plays.talkers", "TalkPlay"): """__init__(self,talker,*processes) of(talker,processes) next_moves(self)
        is_still(self) is_quiet(self) run(self) view(self,process) do(self,move) do_all(self,moves)
        settle(self,*,most=1000) back(self,*,many=1) trial(self) attempt(self,action) twin(self)""",
    ("letterrules.watch.watchers", "Watcher"): """__init__(self,rule,*,among='all') send(self,name,kind,sender,reader)
        read(self,name) run(self) undo(self,many=1) trial(self) attempt(self,action) twin(self) with_rule(self,rule)""",
    ("letterrules.desk.desk", "Desk"): """__init__(self,**rules) of(rules) __call__(self,run) put(self,name,rule)
        drop(self,name) choose(self,marking) kept(self) least(self) undo(self,many=1) redo(self,many=1) trial(self)
        during(self,action) twin(self) joined(self,other)""",
    ("letterrules.desk.shell", "Shell"): """do(self,line) results(self,lines) tried(self,line) copied_desk(self)
        of_log(log)""",
}
SIGNS = {
    "Order": "or invert eq str len iter contains", "Run": "add eq str len iter contains",
    "Pattern": "and eq str len iter contains", "Rule": "or eq str len iter contains getitem",
    "OwnOrder": "eq str len iter contains getitem", "Marking": "or and eq str len iter getitem", "Transport": "",
    "Play": "eq str len iter", "Talker": "call", "TalkPlay": "eq str len iter", "Watcher": "eq str len",
    "Desk": "eq str len iter contains getitem", "Shell": "eq",
}
PROPERTIES = {
    "Order": "things pairs next_pairs firsts lasts", "Run": "letters rows processes order unread is_whole",
    "Pattern": "letters conditions groups kinds", "Rule": "patterns kinds",
    "OwnOrder": "pattern arrangement events next_pairs run_set", "Marking": "other kinds", "Transport": "marking",
    "Play": "transport processes steps letters under_way pending", "Talker": "",
    "TalkPlay": "talker processes moves pending", "Watcher": "rule among paper verdict since",
    "Desk": "names marking answer steps", "Shell": "log",
}
CONSTANTS = {
    "letterrules.base.orders": {"MAX_THINGS": 240}, "letterrules.runs.runs": {"MAX_LETTERS": 60, "MAX_PROCESSES": 40},
    "letterrules.runs.sets": {"SETS": ("all", "pairs", "causal", "single")},
    "letterrules.rules.patterns": {"MAX_ARRANGEMENTS": 600, "MAX_RULE": 6},
    "letterrules.answers.answers": {"ANSWERS": ("nothing", "numbers", "notes", "letters", "never")},
    "letterrules.answers.follows": {"MAX_CASES": 2000},
    "letterrules.marks.known": {"WORDS": ("nothing", "numbers", "notes")},
    "letterrules.watch.watchers": {"MAX_UNREAD": 6}, "letterrules.desk.desk": {"MAX_RULES": 12},
}


def signature(function):
    return str(inspect.signature(function)).replace(" ", "")


def told(text):
    """Return pairs of a name and its parameters."""
    return [(word[:word.index("(")], word[word.index("("):]) for word in text.split()]


class InterfaceTests(unittest.TestCase):
    def test_functions(self):
        for name, text in FUNCTIONS.items():
            module = importlib.import_module(name)
            for function, parameters in told(text):
                found = getattr(module, function)
                self.assertEqual((found.__module__, found.__name__), (name, function))
                self.assertEqual(signature(found), parameters, function)

    def test_methods(self):
        for (name, title), text in METHODS.items():
            found = getattr(importlib.import_module(name), title)
            self.assertEqual(found.__module__, name)
            for method, parameters in told(text):
                self.assertIn(method, vars(found))
                self.assertEqual(signature(getattr(found, method)), parameters, (title, method))
            for sign in SIGNS[title].split():
                self.assertIn(f"__{sign}__", vars(found))
            for word in PROPERTIES[title].split():
                self.assertIsInstance(vars(found)[word], property)

    def test_constants(self):
        for name, values in CONSTANTS.items():
            for constant, value in values.items():
                self.assertEqual(getattr(importlib.import_module(name), constant), value)


if __name__ == "__main__":
    unittest.main()
