"""[51] scripts."""
import copy
import itertools
import random
import unittest

from askless.errors import Broken
from askless.graphs import Graph
from askless.scripts import held, is_script, is_walk, moments, outcome, wrong_walk
from tests.scripted import drawn_graph, drawn_script, many_cases, parted_script, told, walks
from tests.values import nested, odd_values

LIST = Graph(["f"], {"r": "x"}, {"x": (0, ("y",)), "y": (1, ("",))}, labels={"y": "told"})
TAKE = [("point", "x", "f", ""), ("quiet",), ("free", "y")]
STATEMENTS = [("new", "x"), ("mark", "x", 3), ("point", "x", "f", "y"), ("point", "x", "f", ""), ("root", "r", ""), ("root", "r", "x"),
              ("free", "x"), ("quiet",), ("copy", "x", "y"), ("copy", "x", "x")]
OTHERS = [("ask", "q"), ("await", "q"), ("later", "x"), ("lock", "l"), ("unlock", "l"), ("loop", []), ("either", [[]]),
          ("copy", "x"), ("copy", "x", ""), ("copy", "", "x"), ("copy", "x", "y", "z"), ("copy", 1, 2), ["copy", "x", "y"], ("new", ""),
          ("mark", "x", True), ("mark", "x", 4), ("root", "r", "?"), ("quiet", "q"), ("free", None), ["quiet"], "quiet", ("copies", "x", "y"),
          (True, "x", "y"), ("loop", nested(58))]


class ScriptTest(unittest.TestCase):
    def test_scripts(self):
        for script in [[], STATEMENTS, STATEMENTS[::-1], [("quiet",)] * 300000]:
            self.assertIs(is_script(script), True)
        for statement in STATEMENTS:
            self.assertIs(is_script([statement]), True)

    def test_no_scripts(self):
        for statement in OTHERS + odd_values():
            self.assertIs(is_script([statement]), False, statement)
            self.assertIs(is_script(STATEMENTS + [statement]), False)
        for thing in odd_values() + [tuple(STATEMENTS), {("quiet",): 1}, ("quiet",)]:
            self.assertIs(is_script(thing), isinstance(thing, list) and len(thing) == 0, thing)

    def test_moments(self):
        graph = LIST.copied()
        script = [("copy", "z", "y"), ("mark", "z", 2), ("point", "x", "f", "z"), ("quiet",), ("free", "y"), ("new", "y"), ("root", "r", "y")]
        found = moments(graph, script)
        self.assertEqual(graph, LIST)
        def made(r, x, **more):
            cells = dict({"x": (0, (x,))}, **{name: (part[0], ("",)) for name, part in more.items()})
            return Graph(["f"], {"r": r}, cells, labels={name: part[1] for name, part in more.items()})
        old, new = (1, "told"), (2, "told")
        self.assertEqual(found, [LIST, made("x", "y", y=old, z=old), made("x", "y", y=old, z=new), made("x", "z", y=old, z=new),
                                 made("x", "z", y=old, z=new), made("x", "z", z=new), made("x", "z", z=new, y=(0, "y")),
                                 made("y", "z", z=new, y=(0, "y"))])
        found[0][("root", "r")] = ""
        found[3][("root", "r")] = ""
        self.assertEqual(graph, LIST)
        self.assertEqual(moments(graph, script)[4], made("x", "z", y=old, z=new))
        self.assertEqual(len({id(part) for part in found}), 8)
        self.assertIsNot(found[0], graph)
        grown = moments(LIST, [("new", "z"), ("new", "a"), ("copy", "b", "y")])[3]
        self.assertEqual([grown.cells(), len(grown), grown.reached()], [["a", "b", "x", "y", "z"], 5, ["x", "y"]])
        self.assertEqual(grown.places(), sorted(grown.places()))
        # What led to a freed cell is gone.
        self.assertEqual(moments(LIST, [("free", "y")])[1][("field", "x", "f")], "?")
        self.assertEqual(moments(LIST, [("free", "x")])[1][("root", "r")], "?")
        self.assertEqual(moments(LIST, []), [LIST])

    def test_copies_have_the_targets(self):
        own = Graph(["f", "g"], {"r": "x"}, {"x": (2, ("x", "?"))}, labels={"x": "a"})
        behind = moments(own, [("copy", "y", "x")])[1]
        self.assertEqual([behind[("field", "y", "f")], behind[("field", "y", "g")], behind[("mark", "y")], behind.label("y")],
                         ["x", "?", 2, "a"])
        again = moments(own, [("copy", "y", "x"), ("free", "x"), ("new", "x")])[3]
        self.assertEqual([again.label("x"), again[("field", "y", "f")], again[("mark", "x")]], ["x", "?", 0])

    def test_held(self):
        self.assertEqual(held(LIST, []), [{"x": 0, "y": 0}])
        self.assertEqual(held(LIST, TAKE), [{"x": 0, "y": 0}, {"x": 1, "y": 0}, {"x": 2}, {"x": 3}])
        self.assertEqual(held(Graph([], {"r": ""}, {"x": (0, ())}), [("quiet",)]), [{}, {}])
        found = held(LIST, TAKE)
        found[0].clear()
        self.assertEqual(held(LIST, TAKE)[0], {"x": 0, "y": 0})

    def test_faults(self):
        for statement in [("new", "x"), ("mark", "z", 0), ("point", "z", "f", ""), ("point", "x", "g", ""), ("point", "x", "f", "z"),
                          ("root", "s", ""), ("root", "r", "z"), ("free", "z"), ("copy", "x", "y"), ("copy", "z", "q"), ("copy", "x", "q")]:
            for script in [[statement], [("quiet",), ("new", "w"), statement, ("free", "x")]]:
                at = script.index(statement)
                for call in [moments, held]:
                    with self.assertRaises(Broken) as caught:
                        call(LIST, script)
                    self.assertEqual(caught.exception.at, at)
                self.assertEqual(outcome(LIST, script), ("fault", at))
                self.assertIs(wrong_walk(LIST, script), None)

    def test_outcomes(self):
        for how, script in [
                (("right",), []), (("right",), TAKE), (("held", 1), [TAKE[0], TAKE[2]]), (("held", 0), [("free", "y")]),
                (("held", 1), [("quiet",), ("free", "x")]), (("gone", 4), [("new", "a"), ("new", "b"), ("point", "a", "f", "b"), ("free", "b"),
                                                                         ("point", "x", "f", "a")]),
                (("fault", 1), [("quiet",), ("free", "q"), ("free", "x")])]:
            self.assertEqual(outcome(LIST, script), how)
        # What is gone at moment 0 is met behind the first statement, if it is there then.
        gone = Graph([], {"r": "?"}, {})
        self.assertEqual([outcome(gone, script) for script in [[], [("quiet",)], [("root", "r", "")]]],
                         [("right",), ("gone", 0), ("right",)])
        self.assertEqual(wrong_walk(gone, [("quiet",)]), [(1, ("root", "r"))])

    def test_arguments_stay(self):
        graph, script = LIST.copied(), list(TAKE)
        for call in [moments, held, outcome, wrong_walk, lambda one, other: is_walk(one, other, [(0, ("root", "r"))])]:
            call(graph, script)
            self.assertEqual((graph, script), (LIST, TAKE))

    def test_drawn_scripts(self):
        words = set()
        for graph, script in many_cases(300):
            fault, holding, graphs, how, harms = told(graph, script)
            before = copy.deepcopy(script)
            self.assertEqual(outcome(graph, script), how)
            words.add(how[0])
            if fault is None:
                found = held(graph, script)
                self.assertEqual(found, holding)
                self.assertEqual([list(part) for part in found], [sorted(part) for part in found])
                self.assertEqual(moments(graph, script), graphs)
            else:
                for call in [moments, held]:
                    with self.assertRaises(Broken) as caught:
                        call(graph, script)
                    self.assertEqual(caught.exception.at, fault)
            self.check_wrong_walk(graph, script, how, graphs)
            self.assertEqual(script, before)
        self.assertEqual(words, {"right", "fault", "held", "gone"})

    def check_wrong_walk(self, graph, script, how, graphs):
        walk = wrong_walk(graph, script)
        if how[0] in ("right", "fault"):
            self.assertIs(walk, None)
            return
        self.assertIs(is_walk(graph, script, walk), True)
        cell = ""
        for moment, place in walk:
            self.assertTrue(place[0] == "root" or place[:2] == ("field", cell))
            cell = graphs[moment][place]
        last = walk[-1][0]
        if how[0] == "held":
            self.assertEqual((cell, last <= how[1]), (script[how[1]][1], True))
        else:
            self.assertEqual((cell, last), ("?", how[1] + 1))

    def test_wrong_walks_of_some_length(self):
        chain = Graph(["f"], {"r": "w"}, {"w": (0, ("x",)), "x": (0, ("y",)), "y": (0, ("z",)), "z": (0, ("",))})
        script = [("root", "r", ""), ("point", "y", "f", ""), ("new", "a"), ("free", "z")]
        self.assertEqual(outcome(chain, script), ("held", 3))
        self.assertEqual([place for moment, place in wrong_walk(chain, script)],
                         [("root", "r"), ("field", "w", "f"), ("field", "x", "f"), ("field", "y", "f")])
        # The trail of an elder walker is told, whose cells no quiet has taken away.
        later = [("point", "y", "f", ""), ("quiet",), ("root", "r", "x"), ("point", "w", "f", "z"), ("new", "a"), ("free", "z")]
        self.assertEqual(outcome(chain, later), ("held", 5))
        walk = wrong_walk(chain, later)
        self.assertEqual([place for moment, place in walk], [("root", "r"), ("field", "w", "f")])
        self.assertEqual((walk[0][0], walk[1][0] in (4, 5)), (2, True))


class WalkTest(unittest.TestCase):
    def test_walks(self):
        good = [[], [(0, ("root", "r"))], [(3, ("root", "r"))], [(0, ("root", "r")), (0, ("field", "x", "f")), (1, ("mark", "y"))],
                [(0, ("root", "r")), (1, ("field", "x", "f")), (1, ("root", "r")), (1, ("root", "r"))],
                [(2, ("root", "r")), (3, ("mark", "x"))]]
        bad = [[(0, ("field", "x", "f"))], [(0, ("root", "r")), (1, ("field", "x", "f")), (1, ("mark", "y"))],
               [(1, ("root", "r")), (2, ("root", "r"))], [(0, ("root", "r")), (3, ("root", "r"))], [(1, ("root", "r")), (0, ("root", "r"))],
               [(4, ("root", "r"))], [(-1, ("root", "r"))], [(0, ("root", "s"))], [(0, ("root", "r")), (0, ("field", "x", "g"))],
               [(True, ("root", "r"))], [(False, ("root", "r"))], [[0, ("root", "r")]], [(0, ["root", "r"])], [(0, ("root", "r"), 1)],
               ((0, ("root", "r")),), [(10 ** 39, ("root", "r"))], [(0, ("root", "r")), (0, ("mark", "y"))], [(0, ("mark", "x"))]]
        for walk in good:
            self.assertIs(is_walk(LIST, TAKE, walk), True, walk)
        for walk in bad:
            self.assertIs(is_walk(LIST, TAKE, walk), False, walk)
        for thing in odd_values():
            self.assertIs(is_walk(LIST, TAKE, thing), isinstance(thing, list) and len(thing) == 0)
            self.assertIs(is_walk(LIST, TAKE, [thing]), False)
            self.assertIs(is_walk(LIST, TAKE, [(0, thing)]), False)
        self.assertIs(is_walk(LIST, TAKE, [(0, ("root", "r"))] * 200000), True)
        self.assertIs(is_walk(LIST, TAKE, [(0, ("root", "r"))] * 200000 + [(0, ("root", "q"))]), False)

    def test_what_ends_walks(self):
        held_cell = [("new", "z"), ("free", "y"), ("mark", "x", 1)]
        start = [(0, ("root", "r")), (0, ("field", "x", "f"))]
        self.assertIs(is_walk(LIST, held_cell, start + [(1, ("mark", "y"))]), True)
        self.assertIs(is_walk(LIST, held_cell, start + [(2, ("mark", "x"))]), False)
        self.assertIs(is_walk(LIST, held_cell, start[:1] + [(2, ("field", "x", "f"))]), True)
        self.assertIs(is_walk(LIST, held_cell, start[:1] + [(2, ("field", "x", "f")), (2, ("mark", "x"))]), False)
        fault = [("new", "z"), ("new", "z"), ("quiet",)]
        self.assertIs(is_walk(LIST, fault, [(1, ("root", "r"))]), True)
        self.assertIs(is_walk(LIST, fault, [(2, ("root", "r"))]), False)
        self.assertIs(is_walk(LIST, fault, []), True)

    def test_all_walks_of_drawn_scripts(self):
        words = ("new", "mark", "point", "root", "root", "free", "free", "quiet")
        for number, (graph, script) in enumerate(many_cases(60, words, 4)):
            found = walks(graph, script, 2)
            places = [("root", r) for r in graph.roots() + ["q"]]
            places += [(word, x, f)[:2 + (word == "field")] for word in ("mark", "field") for x in "wxyz" for f in graph.fields() + ["h"]]
            stops = [(moment, place) for moment in range(len(script) + 2) for place in places]
            for walk in itertools.chain([()], [(stop,) for stop in stops], random.Random(number).sample(
                    list(itertools.product(stops, repeat=2)), min(200, len(stops) ** 2))):
                self.assertIs(is_walk(graph, script, list(walk)), walk in found, (walk, script))
            for walk in random.Random(number).sample(sorted(walks(graph, script[:3], 3)), 20)[:20] if len(found) > 20 else []:
                self.assertIs(is_walk(graph, script[:3], list(walk)), True)

    def test_walks_tell_who_can_hold_a_cell(self):
        for seed in range(60):
            rng = random.Random(seed)
            graph = drawn_graph(rng)
            script = parted_script(rng, graph, 4) if seed % 2 else drawn_script(rng, graph, 4, ["root", "point", "new", "quiet"], 0)
            holding = held(graph, script)
            graphs = moments(graph, script)
            for walk in walks(graph, script, 2):
                for moment, place in walk:
                    cell = graphs[moment][place]
                    if place[0] != "mark" and cell not in ("", "?"):
                        self.assertGreaterEqual(holding[moment][cell], walk[0][0])
