"""[50] graphs."""
import copy
import unittest

from askless.errors import BadTarget, NoPlace, Unknown, Wrong
from askless.graphs import Graph
from tests.values import nested, odd_values

CELLS = {"y": (1, ("z", "")), "x": (0, ("y", "x")), "z": (3, ("?", "")), "w": (2, ("x", "w"))}
BIG = 10 ** 39


def sample():
    return Graph(["g", "f"], {"s": "?", "r": "x"}, CELLS, labels={"z": "y", "x": "label"})


class MakeTest(unittest.TestCase):
    def refused(self, error, *args, **more):
        with self.assertRaises(error) as caught:
            Graph(*args, **more)
        return caught.exception

    def test_wrong_arguments(self):
        good = [["f"], {"r": "x"}, {"x": (0, ("",))}, {"x": "a"}]
        bad = [
            odd_values() + [["f", "f"], ["f", "g", "h"], ["F"], [True], "f", {"f": 1}, [["f"]]],
            odd_values() + [{"r": None}, {"r": 0}, {"R": ""}, {"r": "", "S": ""}, {True: ""}, {"r": "", "s": "", "t": ""}, {("r",): ""}, [("r", "")],
                            {"r": ["x"]}],
            odd_values() + [{"x": [0, ("",)]}, {"x": (0, [""])}, {"x": (0, ())}, {"x": (0, ("", ""))}, {"x": (4, ("",))},
                            {"x": (True, ("",))}, {"x": (0, (None,))}, {"x": (0, ("",), 1)}, {"X": (0, ("",))}, {"x": (BIG, ("",))},
                            {1: (0, ("",))}, {"x": (-1, ("",))}, {"x": None}],
            odd_values() + [{"x": 1}, {"x": ""}, {"x": "A"}, {1: "x"}, {"x": None}, [("x", "a")], {"": "a"}],
        ]
        # Of the odd values, these are as they must be, as far as this goes.
        fits = [[[], (), ("quiet", "q"), ["quiet"]], [], [{}], [{}, None]]
        for place, things in enumerate(bad):
            for thing in things:
                args = list(good)
                args[place] = thing
                if any(type(thing) is type(fit) and thing == fit for fit in fits[place]):
                    continue
                with self.subTest(place=place, thing=repr(thing)[:50]):
                    self.assertEqual(self.refused(Wrong, *args[:3], labels=args[3]).place, place)
        self.assertEqual(self.refused(Wrong, ["f"], {}, {}).place, 1)
        # A tuple of as many strings as there are fields.
        self.assertEqual(self.refused(Wrong, [], {"r": ""}, {"x": (0, ("",))}).place, 2)

    def test_the_order_of_the_errors(self):
        self.assertEqual(self.refused(Wrong, ["F"], {}, [], labels=1).place, 0)
        self.assertEqual(self.refused(Wrong, ["f"], {}, [], labels=1).place, 1)
        self.assertEqual(self.refused(Wrong, ["f"], {"r": "q"}, [], labels=1).place, 2)
        self.assertEqual(self.refused(Wrong, ["f"], {"r": "q"}, {"x": (0, ("q",))}, labels=1).place, 3)
        self.assertEqual(self.refused(BadTarget, ["f"], {"r": "q"}, {"x": (0, ("q",))}, labels={"q": "a"}).place, ("field", "x", "f"))
        self.assertEqual(self.refused(BadTarget, ["f"], {"s": "q", "r": "q"}, {"x": (0, ("",))}, labels={"q": "a"}).place, ("root", "r"))
        self.assertEqual(self.refused(Unknown, ["f"], {"r": ""}, {"x": (0, ("",))}, labels={"q": "a", "p": "a", "x": "a"}).name, "p")

    def test_the_least_place_with_a_bad_target(self):
        cells = {"b": (0, ("", "X")), "a": (0, ("", "nope"))}
        self.assertEqual(self.refused(BadTarget, ["g", "f"], {"r": "b"}, cells).place, ("field", "a", "g"))
        for target in ["X", "??", " ", "y", "abcdefghi", "x" * 1000000]:
            self.assertEqual(self.refused(BadTarget, [], {"r": target}, {"x": (0, ())}).place, ("root", "r"))
        self.assertEqual(self.refused(BadTarget, [], {"s": "b", "r": "b"}, {}).place, ("root", "r"))

    def test_arguments_are_kept_apart(self):
        fields, roots, cells, labels = ["f"], {"r": "x"}, {"x": (0, ("",))}, {"x": "a"}
        before = copy.deepcopy([fields, roots, cells, labels])
        graph = Graph(fields, roots, cells, labels=labels)
        graph[("root", "r")] = ""
        graph[("mark", "x")] = 2
        self.assertEqual([fields, roots, cells, labels], before)
        fields.append("g")
        roots["r"] = "?"
        cells["y"] = (1, ("",))
        labels["x"] = "b"
        self.assertEqual(graph, Graph(["f"], {"r": ""}, {"x": (2, ("",))}, labels={"x": "a"}))

    def test_edges(self):
        graph = Graph((), {"r": ""}, {})
        self.assertEqual([len(graph), graph.cells(), graph.fields(), graph.roots(), graph.places(), graph.reached()],
                         [0, [], [], ["r"], [("root", "r")], []])
        self.assertEqual(Graph([], {"r": ""}, {}, labels={}), graph)
        names = [a + b for a in "abcdefgh" for b in "abcdefgh"][:60]
        chain = {name: (0, (after,)) for name, after in zip(names, names[1:] + [""])}
        graph = Graph(["f"], {"r": names[0]}, chain)
        self.assertEqual([len(graph), graph.reached(), graph.cells()], [60, sorted(names), sorted(names)])


class QueryTest(unittest.TestCase):
    def test_names(self):
        graph = sample()
        self.assertEqual(graph.fields(), ["f", "g"])
        self.assertEqual(graph.roots(), ["r", "s"])
        self.assertEqual(graph.cells(), ["w", "x", "y", "z"])
        self.assertEqual(graph.reached(), ["x", "y", "z"])
        self.assertEqual(len(graph), 4)
        self.assertEqual(graph.places(), [("field", x, f) for x in "wxyz" for f in "fg"] + [("mark", x) for x in "wxyz"]
                         + [("root", "r"), ("root", "s")])
        self.assertEqual([graph.label(x) for x in "wxyz"], ["w", "label", "y", "y"])
        turned = Graph(["f"], {"r": "z", "q": "w"}, {"z": (0, ("y",)), "y": (0, ("x",)), "x": (0, ("",)), "w": (0, ("",))})
        self.assertEqual(turned.reached(), ["w", "x", "y", "z"])
        for ask in [graph.fields, graph.roots, graph.cells, graph.places, graph.reached]:
            told = ask()
            told.clear()
            self.assertNotEqual(ask(), told)

    def test_labels_of_others(self):
        for thing in odd_values() + ["q", "label"]:
            with self.assertRaises(Unknown) as caught:
                sample().label(thing)
            self.assertIs(caught.exception.name, thing)

    def test_what_stands_at_places(self):
        graph = sample()
        told = {("field", "x", "f"): "y", ("field", "x", "g"): "x", ("field", "z", "f"): "?", ("field", "y", "g"): "",
                ("mark", "z"): 3, ("mark", "x"): 0, ("root", "r"): "x", ("root", "s"): "?"}
        for place in told:
            self.assertEqual(graph[place], told[place])
            self.assertIs(place in graph, True)

    def test_no_places(self):
        others = odd_values() + [("root", "q"), ["root", "r"], ("field", "x"), ("field", "x", "h"), ("mark", "q"), ("mark", "x", "f"),
                                 ("root",), ("root", ("r",)), (("root", "r"),), ("root", ["r"]), ("field", "x", True), ("mark", ""),
                                 nested(60, ("root", "r"), tuple), ("x",) * 1000000]
        for thing in others:
            graph = sample()
            self.assertIs(thing in graph, False)
            for call in [lambda: graph[thing], lambda: graph.__setitem__(thing, "x"), lambda: graph.__setitem__(thing, None)]:
                with self.assertRaises(NoPlace) as caught:
                    call()
                self.assertIs(caught.exception.place, thing)
            self.assertEqual(graph, sample())

    def test_it_is_not_iterated_over(self):
        with self.assertRaises(TypeError):
            list(sample())


class ChangeTest(unittest.TestCase):
    def test_put(self):
        graph = sample()
        for place, worth in [(("root", "s"), "w"), (("root", "r"), ""), (("field", "z", "f"), "z"), (("mark", "w"), 0)]:
            graph[place] = worth
            self.assertEqual(graph[place], worth)
        self.assertEqual(graph.reached(), ["w", "x", "y", "z"])
        cells = {"y": (1, ("z", "")), "x": (0, ("y", "x")), "z": (3, ("z", "")), "w": (0, ("x", "w"))}
        self.assertEqual(graph, Graph(["f", "g"], {"r": "", "s": "w"}, cells, labels={"z": "y", "x": "label"}))

    def test_bad_worths(self):
        targets = odd_values() + ["?", "q", "label", 0, 1]
        marks = odd_values() + [4, -1, BIG, "0", "x", True, False, (1,)]
        for place, worths in [(("root", "r"), targets), (("field", "x", "g"), targets), (("mark", "x"), marks)]:
            for worth in worths:
                if isinstance(worth, str) and worth == "" and place[0] != "mark":
                    continue
                graph = sample()
                with self.assertRaises(BadTarget) as caught:
                    graph[place] = worth
                self.assertEqual(caught.exception.place, place)
                self.assertEqual(graph, sample())

    def test_copies_go_on_by_themselves(self):
        graph = sample()
        other = graph.copied()
        self.assertEqual(other, graph)
        self.assertIsNot(other, graph)
        other[("root", "r")] = "w"
        self.assertEqual(graph, sample())
        self.assertNotEqual(other, graph)
        graph[("mark", "x")] = 1
        self.assertEqual(other[("mark", "x")], 0)
        self.assertEqual(other.label("x"), "label")

    def test_equal(self):
        self.assertEqual(sample(), sample())
        turned = {name: CELLS[name] for name in sorted(CELLS)}
        self.assertEqual(Graph(("f", "g"), {"r": "x", "s": "?"}, turned, labels={"x": "label", "z": "y", "w": "w"}), sample())
        others = [
            Graph(["g", "f"], {"s": "", "r": "x"}, CELLS, labels={"z": "y", "x": "label"}),
            Graph(["g", "h"], {"s": "?", "r": "x"}, CELLS, labels={"z": "y", "x": "label"}),
            Graph(["g", "f"], {"t": "?", "r": "x"}, CELLS, labels={"z": "y", "x": "label"}),
            Graph(["g", "f"], {"r": "x"}, CELLS, labels={"z": "y", "x": "label"}),
            Graph(["g", "f"], {"s": "?", "r": "x"}, CELLS, labels={"z": "y"}),
            Graph(["g", "f"], {"s": "?", "r": "x"}, dict(CELLS, w=(1, ("x", "w"))), labels={"z": "y", "x": "label"}),
            Graph(["g", "f"], {"s": "?", "r": "x"}, dict(CELLS, v=(1, ("x", "w"))), labels={"z": "y", "x": "label"}),
        ]
        for other in others + odd_values():
            self.assertIs(sample() == other, False)
        self.assertNotEqual(Graph(["f"], {"r": ""}, {}), Graph([], {"r": ""}, {}))
