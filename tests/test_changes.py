"""[81] changes."""
import random
import unittest

from askless.changes import changes, is_way, shortest_way, shows
from askless.errors import NotPlain, Unlike
from askless.graphs import Graph
from askless.papers import is_switch_paper, switch_paper
from askless.plans import plan
from askless.switches import copies, switches, two_ways
from tests.scripted import drawn_graph
from tests.shown import all_changes, all_logs, all_ways, pairings, pairs
from tests.values import odd_values

ONE = Graph(["to"], {"r": "x"}, {"x": (0, ("y",)), "y": (1, ("z",)), "z": (2, ("",))})
OTHER = Graph(["to"], {"r": "x"}, {"x": (0, ("y",)), "y": (3, ("",)), "z": (2, ("",))})
PATH = [("root", "r"), ("field", "x", "to")]
# All that takes both graphs, and refuses such as are not plain.
CALLS = [changes, switches, two_ways, switch_paper,
         lambda one, other: is_way(one, other, None), lambda one, other: shortest_way(one, other, ("root", "nope")),
         lambda one, other: copies(one, other, None), lambda one, other: plan(one, other, []),
         lambda one, other: is_switch_paper(one, other, None)]


def variants():
    """(graph, other, error, which) for graphs that are unlike, or of which one is not plain."""
    plain = Graph(["f"], {"r": "x"}, {"x": (0, ("",)), "y": (0, ("x",))})
    marked = Graph(["f"], {"r": "x"}, {"x": (1, ("",))}, labels={"x": "y"})
    gone = Graph(["f"], {"r": "x"}, {"x": (0, ("",)), "y": (0, ("?",))})
    lost = Graph(["f"], {"r": "?"}, {})
    others = [Graph(["g"], {"r": "?"}, {}), Graph([], {"r": ""}, {}), Graph(["f", "g"], {"r": ""}, {}), Graph(["f"], {"s": ""}, {}),
              Graph(["f"], {"r": "", "s": ""}, {})]
    for other in others:
        yield plain, other, Unlike, None
        yield other, plain, Unlike, None
        yield gone, other, Unlike, None
        yield other, marked, Unlike, None
    for bad in [marked, gone, lost]:
        yield bad, plain, NotPlain, 0
        yield plain, bad, NotPlain, 1
        yield bad, marked, NotPlain, 0
        yield bad, lost, NotPlain, 0


class ErrorTest(unittest.TestCase):
    def test_what_takes_two_graphs(self):
        for one, other, error, which in variants():
            for call in CALLS:
                with self.assertRaises(error) as caught:
                    call(one, other)
                self.assertEqual(getattr(caught.exception, "which", None), which)
            if error is Unlike:
                with self.assertRaises(Unlike):
                    shows(one, other)
            else:
                self.assertIn(shows(one, other), (True, False))

    def test_arguments_stay(self):
        for one, other in pairs(30):
            ahead = (one.copied(), other.copied())
            told = [outcome_of(call, one, other) for call in CALLS + [shows]]
            self.assertEqual((one, other), ahead)
            self.assertEqual([outcome_of(call, one, other) for call in CALLS + [shows]], told)
            for part in told:
                if isinstance(part, list):
                    part.append("more")
            self.assertEqual([outcome_of(call, *ahead) for call in [changes, switches]], [outcome_of(call, one, other) for call in [changes, switches]])

    def test_the_order_of_the_parts_means_nothing(self):
        for one, other in pairs(30):
            both = [shuffled(graph) for graph in (one, other)]
            self.assertEqual(both, [one, other])
            self.assertEqual([outcome_of(call, *both) for call in CALLS], [outcome_of(call, one, other) for call in CALLS])


def shuffled(graph):
    """The graph from dicts with their keys in another order."""
    cells = {x: (graph[("mark", x)], tuple(graph[("field", x, f)] for f in graph.fields())) for x in graph.cells()[::-1]}
    return Graph(graph.fields()[::-1], {r: graph[("root", r)] for r in graph.roots()[::-1]}, cells)


def outcome_of(call, one, other):
    try:
        return call(one, other)
    except ValueError as error:
        return [error.__class__.__name__, sorted(vars(error).items(), key=repr)]


class ShowsTest(unittest.TestCase):
    def test_shows(self):
        self.assertIs(shows(ONE, ONE), True)
        self.assertIs(shows(ONE, OTHER), False)
        empty = Graph(["f"], {"r": ""}, {})
        self.assertIs(shows(empty, Graph(["f"], {"r": ""}, {"x": (3, ("x",))})), True)
        self.assertIs(shows(empty, Graph(["f"], {"r": "?"}, {})), False)
        self.assertIs(shows(Graph(["f"], {"r": "?"}, {}), Graph(["f"], {"r": "?"}, {})), True)
        named = Graph(["f"], {"r": "a"}, {"a": (0, ("a",))}, labels={"a": "x"})
        self.assertIs(shows(named, Graph(["f"], {"r": "x"}, {"x": (0, ("x",))})), True)
        self.assertIs(shows(named, Graph(["f"], {"r": "a"}, {"a": (0, ("a",))})), False)
        # Two cells that look alike are not one.
        two = Graph(["f"], {"r": "a", "s": "b"}, {"a": (0, ("",)), "b": (0, ("",))}, labels={"a": "x", "b": "x"})
        one = Graph(["f"], {"r": "x", "s": "x"}, {"x": (0, ("",))})
        self.assertEqual([shows(two, one), shows(one, two), shows(two, two.copied())], [False, False, True])
        for target, same in [("?", True), ("", False), ("x", False)]:
            graphs = [Graph(["f"], {"r": "x"}, {"x": (0, (part,))}) for part in ("?", target)]
            self.assertEqual([shows(*graphs), shows(*graphs[::-1])], [same, same])

    def test_rings(self):
        def ring(many, fields=("f",)):
            names = ["a", "b", "c", "d"][:many]
            return Graph(fields, {"r": "a"}, {x: (0, (y,)) for x, y in zip(names, names[1:] + names[:1])}, labels={x: "x" for x in names})
        for one in range(1, 5):
            for other in range(1, 5):
                self.assertIs(shows(ring(one), ring(other)), one == other)

    def test_drawn_graphs(self):
        found = {True: 0, False: 0}
        for seed in range(400):
            rng = random.Random(seed)
            one = drawn_graph(rng, 0.1 if seed % 3 == 0 else 0)
            for turn in range(4):
                other = swapped(rng, one) if turn < 2 else drawn_graph(rng)
                if turn == 1 and other.places():
                    place = rng.choice(other.places())
                    other[place] = rng.randint(0, 3) if place[0] == "mark" else rng.choice(other.cells() + [""])
                if (one.fields(), one.roots()) == (other.fields(), other.roots()):
                    expected = pairings(one, other)
                    self.assertEqual([shows(one, other), shows(other, one)], [expected, expected])
                    found[expected] += 1
        self.assertGreater(min(found.values()), 100)

    def test_same_logs(self):
        for one, other in pairs(80):
            places = max(len(graph.roots()) + len(graph.reached()) * (1 + len(graph.fields())) for graph in (one, other))
            if places <= 5:
                self.assertIs(shows(one, other), all_logs(one, places) == all_logs(other, places))


def swapped(rng, graph):
    """The graph with its cells under other names, their labels kept."""
    names = dict(zip(graph.cells(), rng.sample(["w", "x", "y", "z"], len(graph))))
    names.update({"": "", "?": "?"})
    cells = {names[x]: (graph[("mark", x)], tuple(names[graph[("field", x, f)]] for f in graph.fields())) for x in graph.cells()}
    return Graph(graph.fields(), {r: names[graph[("root", r)]] for r in graph.roots()}, cells,
                 labels={names[x]: graph.label(x) for x in graph.cells()})


class WayTest(unittest.TestCase):
    def test_changes(self):
        self.assertEqual(changes(ONE, ONE), [])
        self.assertEqual(changes(ONE, OTHER), [("field", "y", "to"), ("mark", "y")])
        # z is reached by ONE alone.
        lost = Graph(["to"], {"r": "x"}, {"x": (0, ("y",)), "y": (1, ("",)), "z": (0, ("z",))})
        self.assertEqual([changes(ONE, lost), changes(lost, ONE)], [[("field", "y", "to")]] * 2)
        empty = Graph(["to"], {"r": ""}, {})
        self.assertEqual([changes(ONE, empty), changes(empty, ONE), changes(empty, empty)], [[("root", "r")], [("root", "r")], []])

    def test_ways(self):
        end = ("field", "y", "to")
        good = [PATH + [end], PATH + [("mark", "y")]]
        bad = [PATH, [], [end], PATH[1:] + [end], PATH + [end, ("mark", "z")], PATH + [end, end], [("root", "r"), end], PATH[:1] * 2,
               tuple(PATH + [end]), [list(PATH[0])] + PATH[1:] + [end], PATH + [("mark", "x")], PATH + [("mark", "q")], [("root", "q"), end],
               PATH + [("field", "y", "f")], [("mark", "y")], PATH + [("mark", "y"), ("mark", "y")]]
        for way in good:
            self.assertIs(is_way(ONE, OTHER, way), True)
        for way in bad:
            self.assertIs(is_way(ONE, OTHER, way), False, way)
        self.assertIs(is_way(ONE, ONE, good[0]), False)
        # A root that is called like the cell ahead is no place of it.
        one = Graph([], {"r": "x", "x": ""}, {"x": (0, ())})
        other = Graph([], {"r": "x", "x": "x"}, {"x": (1, ())})
        self.assertEqual([is_way(one, other, way) for way in [[("root", "r"), ("root", "x")], [("root", "x")], [("root", "r"), ("mark", "x")]]],
                         [False, True, True])
        self.assertIs(is_way(ONE, OTHER, PATH * 400000 + [end]), False)
        for thing in odd_values():
            for way in [thing, [thing], PATH + [thing], [thing] + PATH]:
                self.assertIs(is_way(ONE, OTHER, way), False)

    def test_ways_go_round_and_over_changes(self):
        one = Graph(["f", "g"], {"r": "x"}, {"x": (0, ("x", "x"))})
        other = Graph(["f", "g"], {"r": "x"}, {"x": (1, ("", "x"))})
        start = [("root", "r")]
        for way, expected in [(start + [("field", "x", "f"), ("mark", "x")], True), (start + [("mark", "x")], True),
                              (start + [("field", "x", "g"), ("field", "x", "f")], True), (start + [("field", "x", "g")], False),
                              (start + [("field", "x", "g"), ("field", "x", "g"), ("mark", "x")], False)]:
            self.assertIs(is_way(one, other, way), expected)
        self.assertEqual(shortest_way(one, other, ("mark", "x")), start + [("mark", "x")])

    def test_shortest_ways(self):
        self.assertEqual(shortest_way(ONE, OTHER, ("mark", "y")), PATH + [("mark", "y")])
        for place in [("root", "r"), ("mark", "x"), ("mark", "q"), ("root", "q"), ("field", "x", "to"), ("field", "y", "f")]:
            self.assertIs(shortest_way(ONE, OTHER, place), None)

    def test_drawn_pairs(self):
        for one, other in pairs(250):
            changed = all_changes(one, other)
            self.assertEqual(changes(one, other), changed)
            ways = all_ways(one, other)
            for way in ways[:100]:
                self.assertIs(is_way(one, other, list(way)), True)
                self.assertIs(is_way(one, other, list(way[:-1])), way[:-1] in ways)
            for place in one.places():
                found = shortest_way(one, other, place)
                if place not in changed:
                    self.assertIs(found, None)
                    continue
                self.assertIn(tuple(found), ways)
                self.assertEqual(len(found), min(len(way) for way in ways if way[-1] == place))

    def test_sixty_cells(self):
        names = ["c" + chr(97 + k // 8) + chr(97 + k % 8) for k in range(60)]
        cells = {x: (0, (y, z)) for x, y, z in zip(names, names[1:] + [""], names[2:] + ["", names[0]])}
        one = Graph(["f", "g"], {"r": names[0], "s": names[7]}, cells)
        other = one.copied()
        other[("mark", names[-1])] = 3
        other[("field", names[-2], "f")] = names[5]
        self.assertEqual(len(shortest_way(one, other, ("mark", names[-1]))), 28)
        self.assertEqual(switches(one, other), [])
        self.assertEqual(len(set(sum(two_ways(one, other), []))), sum(map(len, two_ways(one, other))))
        self.assertIs(shows(one, one.copied()), True)
        self.assertIs(is_switch_paper(one, other, switch_paper(one, other)), True)
