"""The interface: names, arguments, and the files in which they are defined."""
import importlib
import inspect
import unittest

FUNCTIONS = {
    "kinds": ["is_integer(thing)", "is_name(thing)", "is_mark(thing)", "is_number(many, thing)"],
    "statements": ["is_statement(thing)", "bodies(statement)", "names_in(statement)", "count(statement)"],
    "places": ["all_places(program)", "statement_at(program, place)", "after(program, place)",
               "entered(program, place, b)", "put_in(program, place, statement)",
               "put_behind(program, place, b, statement)", "left_out(program, place)"],
    "rows": ["thing_of(program, row, cell)", "rank_of(program, row, cell)", "is_over(program, row)"],
    "steps": ["begin_row(program)", "followers(program, row)", "wrongs(program, row)"],
    "tables": ["is_right(program, *, most=1000)", "is_closed(program, thing)"],
    "runs": ["played(program, run)", "wrong_of(program, run)", "walk(program, run)", "is_run(program, thing)",
             "is_wrong_run(program, thing)"],
    "along": ["rows_along(program, run)", "lean(program, run)", "run_to(program, row, *, most=1000)",
              "wrong_run(program, *, most=1000)"],
    "scripts": ["is_script(thing)", "is_walk(graph, script, thing)", "moments(graph, script)", "held(graph, script)",
                "outcome(graph, script)", "wrong_walk(graph, script)"],
    "spans": ["in_gaps(script, gaps)", "spans(graph, script)", "idle_quiets(graph, script)", "fewest(graph, script)",
              "is_fewest(graph, script, gaps, apart)"],
    "reads": ["is_read(thing)", "is_log(thing)", "is_less(one, other)", "come(log)"],
    "logs": ["run_of(program, log, *, most=1000)", "is_run_of(program, log, thing)"],
    "alike": ["are_alike(one, other, *, most=1000)", "parting_log(one, other, *, most=1000)", "exchanged(program, place)",
              "exchanges(program, *, most=1000)"],
    "promises": ["broken(program, promise, *, most=1000)", "never(patterns)"],
    "moments": ["is_entry(log)", "fitting(program, run, walker)", "never_stood(program, *, most=1000)",
                "run_never_stood(program, *, most=1000)"],
    "chains": ["missed(program, chain, *, most=1000)", "stranger(program, chain, *, most=1000)",
               "twice(program, chain, *, most=1000)", "longest(program, chain, *, most=1000)"],
    "quiets": ["least_quiets(program, places, *, most=1000)", "with_quiets(program, places)",
               "quiet_paper(program, places, *, most=1000)", "is_quiet_paper(program, places, goods, bads)"],
    "entries": ["log_of(graph, script, walk)", "can_log(graph, thing)", "logs(graph)", "sides(graph, script, walk)"],
    "changes": ["shows(one, other)", "is_way(one, other, thing)", "changes(one, other)", "shortest_way(one, other, place)"],
    "switches": ["switches(one, other)", "copies(one, other, switch)", "two_ways(one, other)"],
    "plans": ["plan(one, other, names)", "told_writes(graph, script)"],
    "papers": ["switch_paper(one, other)", "is_switch_paper(one, other, thing)"],
    "laters": ["slow_places(program)", "later_places(program)", "greatest_laters(program, *, most=1000)", "as_later(program, places)",
               "as_quiet(program, place)", "later_bar(program, places, *, most=1000)", "most_unfreed(program, *, most=1000)"],
    "followed": ["choices(program)", "rows_for(program, choice, *, most=1000)", "greatest_choices(program, *, most=1000)",
                 "is_right_for(program, choice, *, most=1000)", "choice_bar(program, choice, *, most=1000)",
                 "choices_paper(program, *, most=1000)", "is_choices_paper(program, goods, bads)"],
    "stuck": ["stuck_run(program, *, most=1000)", "stuck_writers(program, run)", "chain(program, run)"],
    "notation": ["show_statement(statement)", "show_program(program)", "show_run(run)", "read_statement(text)", "read_program(text)",
                 "read_run(text)"],
}
CLASSES = {
    "programs": {"Program": ["__init__(self, cells, roots, writers, *, fields=())", "__eq__(self, other)", "__len__(self)",
                             "cells(self)", "roots(self)", "fields(self)", "quiets(self)", "locks(self)", "body(self, writer)",
                             "with_body(self, writer, body)"]},
    "tables": {"Table": ["__init__(self, program, *, most=1000)", "__eq__(self, other)", "__len__(self)",
                         "__contains__(self, row)", "rows(self)", "rows_at(self, places)", "wrongs(self)", "way(self, row)",
                         "cost(self, row)", "within(self, other)"]},
    "machine": {"Machine": ["__init__(self, program)", "__eq__(self, other)", "__len__(self)", "step(self, thing)",
                            "back(self)", "enter(self)", "places(self)", "asks(self)", "laters(self)", "inside(self)",
                            "steps(self)", "run(self)", "things(self)", "roots(self)", "locks(self)", "held(self, walker)",
                            "log(self, walker)", "reads(self, walker)", "copied(self)"]},
    "walkers": {"Walker": ["__call__(self, root)", "follow(self, k, field)", "look(self, k)", "leave(self)", "is_in(self)",
                           "names(self)"]},
    "graphs": {"Graph": ["__init__(self, fields, roots, cells, *, labels=None)", "__eq__(self, other)", "__len__(self)",
                         "__contains__(self, place)", "__getitem__(self, place)", "__setitem__(self, place, worth)", "fields(self)",
                         "roots(self)", "cells(self)", "places(self)", "reached(self)", "label(self, cell)", "copied(self)"]},
    "logs": {"Logs": ["__init__(self, program, *, most=1000)", "__eq__(self, other)", "__len__(self)", "__contains__(self, thing)",
                      "coming(self, log)", "first(self, many)", "count(self, many)", "missing(self, other)", "within(self, other)"]},
    "promises": {"Promise": ["__init__(self, rows)", "__eq__(self, other)", "rows(self)", "state_after(self, log)",
                             "broken_at(self, log)"]},
    "book": {"Book": ["__init__(self, program)", "__eq__(self, other)", "__len__(self)", "__getitem__(self, place)",
                      "__setitem__(self, place, statement)", "do(self, deed)", "back(self)", "again(self)", "program(self)",
                      "until(self, many)", "log(self)", "copied(self)", "tried(self, deeds)", "block(self, act)"]},
    "desk": {"Desk": ["__init__(self, program)", "execute(self, line)"]},
}
PROPERTIES = [("programs", "Program", "is_straight"), ("tables", "Table", "is_safe"), ("tables", "Table", "fewest"),
              ("walkers", "Walker", "number")]


def module(name):
    return importlib.import_module("askless." + name)


class InterfaceTest(unittest.TestCase):
    def test_functions(self):
        for name, signatures in FUNCTIONS.items():
            for signature in signatures:
                function = getattr(module(name), signature.split("(")[0])
                self.assertEqual(function.__module__, "askless." + name)
                self.assertEqual(function.__name__ + str(inspect.signature(function)), signature)

    def test_classes(self):
        for name, classes in CLASSES.items():
            for title, signatures in classes.items():
                found = getattr(module(name), title)
                self.assertEqual(found.__module__, "askless." + name)
                for signature in signatures:
                    method = vars(found)[signature.split("(")[0]]
                    self.assertEqual(method.__name__ + str(inspect.signature(method)), signature)

    def test_properties(self):
        for name, title, attribute in PROPERTIES:
            self.assertIsInstance(vars(getattr(module(name), title))[attribute], property)

    def test_generators(self):
        for name, title in [("runs", "walk"), ("entries", "logs"), ("followed", "choices")]:
            self.assertTrue(inspect.isgeneratorfunction(getattr(module(name), title)))
