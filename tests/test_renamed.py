"""[11] names: what is renamed one to one, such that the order stays, has results that are renamed likewise."""
import random
import unittest

from askless.alike import exchanges, parting_log
from askless.chains import longest, missed, stranger, twice
from askless.errors import AskError
from askless.graphs import Graph
from askless.followed import choice_bar, choices, choices_paper, greatest_choices, rows_for
from askless.laters import as_later, as_quiet, greatest_laters, later_bar, later_places, most_unfreed, slow_places
from askless.logs import Logs, is_run_of, run_of
from askless.notation import read_program, show_program, show_run
from askless.stuck import chain, stuck_run, stuck_writers
from askless.moments import fitting, never_stood, run_never_stood
from askless.programs import Program
from askless.quiets import least_quiets, quiet_paper
from askless.runs import is_wrong_run, wrong_of
from askless.book import Book
from askless.changes import changes, shortest_way, shows
from askless.entries import log_of, logs
from askless.papers import is_switch_paper, switch_paper
from askless.plans import plan, told_writes
from askless.switches import copies, switches, two_ways
from askless.along import lean, rows_along, run_to, wrong_run
from askless.places import all_places
from askless.scripts import held, is_walk, moments, outcome, wrong_walk
from askless.spans import fewest, idle_quiets, in_gaps, spans
from askless.tables import Table
from tests.drawn import hasty, linked, listed, mild, right_programs, some_programs, torn, visible
from tests.scripted import many_cases, parted_script, drawn_graph
from tests.shown import all_entries, pairs
from tests.test_book import drawn_deed

NAMES = {"x": "xa", "y": "yb", "z": "zc", "r": "ra", "s": "sb", "f": "fa", "g": "gb", "p": "pa", "q": "qb", "k": "ka", "l": "lb",
         "u": "ua", "v": "vb", "w": "wa", "a": "aa", "b": "ba", "h": "ha"}


def renamed(thing):
    if isinstance(thing, dict):
        return {renamed(key): renamed(thing[key]) for key in thing}
    if isinstance(thing, (list, tuple)):
        return type(thing)(renamed(part) for part in thing)
    if isinstance(thing, str) and thing[:1] == "~":
        return "~" + NAMES[thing[1:]]
    return NAMES.get(thing, thing) if isinstance(thing, str) else thing


def renamed_program(program):
    bodies = [program.body(writer) for writer in range(len(program))]
    return Program(renamed(program.cells()), renamed(program.roots()), renamed(bodies), fields=renamed(program.fields()))


def renamed_graph(graph):
    cells = {x: (graph[("mark", x)], tuple(graph[("field", x, f)] for f in graph.fields())) for x in graph.cells()}
    return Graph(renamed(graph.fields()), renamed({r: graph[("root", r)] for r in graph.roots()}), renamed(cells),
                 labels=renamed({x: graph.label(x) for x in graph.cells()}))


def renamed_word(word):
    return NAMES.get(word, word)


def renamed_deed(deed):
    """The words of a deed are no names."""
    return deed[:2] + tuple(renamed(part) for part in deed[2:])


def told(call, *args, **more):
    """What a call returns, or the error that it raises."""
    try:
        return call(*args, **more)
    except AskError as error:
        return [type(error).__name__] + [getattr(error, name) for name in sorted(vars(error))]


class RenamedTest(unittest.TestCase):
    def test_programs(self):
        for number, program in enumerate(some_programs(10, 60, (mild, listed, hasty, torn, visible))):
            other, rng = renamed_program(program), random.Random(number)
            run = wrong_run(program)
            self.assertEqual(run is None, wrong_run(other) is None)
            if run is not None:
                self.assertEqual(wrong_of(other, renamed(run)), renamed(wrong_of(program, run)))
                self.assertTrue(is_wrong_run(other, renamed(lean(program, run))))
            row = rng.choice(Table(program).rows())
            there = run_to(program, row)
            self.assertEqual(rows_along(other, renamed(there)), renamed(rows_along(program, there)))
            self.assertEqual(len(run_to(other, renamed(row))), len(there))
            places = rng.sample(all_places(program), min(3, len(all_places(program))))
            self.assertEqual(told(least_quiets, other, places, most=200), told(least_quiets, program, places, most=200))
            if isinstance(told(least_quiets, program, places, most=200), list) and number % 4 == 0:
                one, two = told(quiet_paper, program, places, most=200), told(quiet_paper, other, places, most=200)
                if isinstance(one, tuple):
                    self.assertEqual(two[0], renamed(one[0]))
                    self.assertEqual([part for part, found in two[1]], [part for part, found in one[1]])

    def test_logs_moments_and_chains(self):
        programs = right_programs(15, 60, (visible, listed, mild, linked))
        for number, program in enumerate(programs):
            other = renamed_program(program)
            logs, others = Logs(program), Logs(other)
            self.assertEqual(len(others), len(logs))
            self.assertEqual(others.first(60), renamed(logs.first(60)))
            log = logs.first(60)[-1]
            self.assertIs(is_run_of(other, renamed(log), renamed(run_of(program, log))), True)
            self.assertEqual(len(run_of(other, renamed(log))), len(run_of(program, log)))
            self.assertEqual(never_stood(other), renamed(never_stood(program)))
            run = run_never_stood(program)
            self.assertTrue(run is None or fitting(other, renamed(run), 0) == [])
            for root in program.roots():
                for field in program.fields():
                    for call in [missed, stranger, twice, longest]:
                        self.assertEqual(call(other, renamed((root, field))), renamed(call(program, (root, field))))
            if number % 8 == 0:
                self.assertEqual(exchanges(other), exchanges(program))
                self.assertEqual(parting_log(other, renamed_program(programs[number - 1])), renamed(parting_log(program, programs[number - 1])))

    def test_laters_and_choices(self):
        for number, program in enumerate(some_programs(12, 60, (mild, listed, hasty, torn, visible))):
            other = renamed_program(program)
            self.assertEqual([slow_places(other), later_places(other)], [slow_places(program), later_places(program)])
            self.assertEqual(as_later(other, slow_places(other)), renamed_program(as_later(program, slow_places(program))))
            for place in later_places(program):
                self.assertEqual(as_quiet(other, place), renamed_program(as_quiet(program, place)))
            self.assertEqual(told(greatest_laters, other, most=500), told(greatest_laters, program, most=500))
            one, two = told(later_bar, program, slow_places(program)), told(later_bar, other, slow_places(program))
            self.assertEqual(one if one is None else one[0], two if two is None else two[0])
            self.assertEqual(told(most_unfreed, other)[0], told(most_unfreed, program)[0])
            self.assertEqual(list(choices(other)), renamed(list(choices(program))))
            for choice in list(choices(program))[number % 3::3]:
                self.assertEqual(rows_for(other, renamed(choice)), renamed(rows_for(program, choice)))
                bars = [choice_bar(other, renamed(choice)), choice_bar(program, choice)]
                self.assertEqual(bars[0] is None, bars[1] is None)
            self.assertEqual(greatest_choices(other), renamed(greatest_choices(program)))
            papers = [choices_paper(other), choices_paper(program)]
            self.assertEqual(papers[0][0], renamed(papers[1][0]))
            self.assertEqual([bad[0] for bad in papers[0][1]], renamed([bad[0] for bad in papers[1][1]]))
            run = stuck_run(program)
            self.assertEqual(run is None, stuck_run(other) is None)
            if run is not None:
                self.assertEqual([stuck_writers(other, renamed(run)), chain(other, renamed(run))], [stuck_writers(program, run), chain(program, run)])

    def test_texts(self):
        for program in some_programs(12, 60, (mild, listed)):
            text = show_program(program)
            words = " ".join(renamed_word(word) for word in text.replace("\n", " \n ").split(" "))
            self.assertEqual(read_program(words.replace(" \n ", "\n")), renamed_program(program))
            run = wrong_run(program)
            if run is not None:
                self.assertEqual(show_run(renamed(run)).split(), [renamed_word(word) for word in show_run(run).split()])

    def test_books(self):
        for seed, program in enumerate(some_programs(12, 60, (mild, listed))):
            rng, book, other = random.Random(seed), Book(program), Book(renamed_program(program))
            for turn in range(25):
                deed = rng.choice([drawn_deed(rng, book.program()), ("put", (0, (0,)), ("root", program.roots()[0], ""))])
                one, two = told(book.do, deed), told(other.do, renamed_deed(deed))
                self.assertEqual(one, two)
            self.assertEqual(other.program(), renamed_program(book.program()))
            self.assertEqual(other.log(), [renamed_deed(deed) for deed in book.log()])

    def test_changes(self):
        for one, other in pairs(120):
            if set(one.roots()) & set("vwxyfg"):
                continue
            both = (renamed_graph(one), renamed_graph(other))
            self.assertIs(shows(*both), shows(one, other))
            for call in [changes, switches]:
                self.assertEqual(call(*both), renamed(call(one, other)))
            for place in switches(one, other):
                self.assertEqual(copies(*both, renamed(place)), renamed(copies(one, other, place)))
            for place in changes(one, other):
                self.assertEqual(len(shortest_way(*both, renamed(place))), len(shortest_way(one, other, place)))
            self.assertEqual(two_ways(*both) is None, two_ways(one, other) is None)
            paper, again = switch_paper(one, other), switch_paper(*both)
            self.assertEqual(paper[0], again[0])
            if paper[0] != "idle":
                self.assertIs(is_switch_paper(*both, renamed(paper) if paper[0] == "two" else ("one", *renamed(paper[1:]))), True)
                self.assertEqual(again[1:3] if paper[0] == "one" else [], renamed(paper[1:3]) if paper[0] == "one" else [])
            made = told(plan, one, other, ["a", "b", "p", "q"])
            if isinstance(made, tuple):
                self.assertEqual(plan(*both, renamed(["a", "b", "p", "q"]))[1], renamed(made[1]))
                self.assertEqual(told_writes(both[0], renamed(made[0])), told_writes(one, made[0]))
            else:
                self.assertEqual(told(plan, *both, renamed(["a", "b", "p", "q"])), made)

    def test_entries(self):
        for graph, script in many_cases(30, ("mark", "point", "root", "copy", "quiet"), 4):
            other = renamed_graph(graph)
            for walk in all_entries(graph, script, 2)[:50]:
                self.assertEqual(log_of(other, renamed(script), renamed(list(walk))), renamed(log_of(graph, script, list(walk))))
            if len(graph.roots()) + len(graph.reached()) * (1 + len(graph.fields())) < 6:
                self.assertEqual(list(logs(other)), renamed(list(logs(graph))))

    def test_scripts(self):
        cases = list(many_cases(120))
        for seed in range(120):
            graph = drawn_graph(random.Random(seed))
            cases.append((graph, parted_script(random.Random(seed), graph, 8)))
        for graph, script in cases:
            other, line = renamed_graph(graph), renamed(script)
            self.assertEqual(other.reached(), renamed(graph.reached()))
            for call in [held, spans, fewest]:
                self.assertEqual(told(call, other, line), renamed(told(call, graph, script)))
            self.assertEqual(outcome(other, line), outcome(graph, script))
            walk = wrong_walk(graph, script)
            self.assertTrue(walk is None or is_walk(other, line, renamed(walk)))
            graphs = told(moments, graph, script)
            self.assertEqual(told(moments, other, line), [renamed_graph(part) if isinstance(part, Graph) else part for part in graphs])
            self.assertEqual(in_gaps(line, [0]), renamed(in_gaps(script, [0])))
            if outcome(graph, script) == ("right",):
                self.assertEqual(idle_quiets(other, line), idle_quiets(graph, script))
