"""[52] spans."""
import itertools
import random
import unittest

from askless.errors import Broken, Hopeless, NotBare
from askless.graphs import Graph
from askless.scripts import outcome
from askless.spans import fewest, idle_quiets, in_gaps, is_fewest, spans
from tests.scripted import drawn_graph, many_cases, parted_script, told
from tests.values import odd_values

LIST = Graph(["f"], {"r": "x"}, {"x": (0, ("y",)), "y": (1, ("",))})
BOTH = [("point", "x", "f", ""), ("new", "z"), ("free", "y"), ("root", "r", "z"), ("mark", "z", 1), ("free", "x")]
CHAIN = Graph(["f", "g"], {"r": "a", "s": "b"}, {"a": (0, ("x", "")), "b": (0, ("y", "")), "x": (0, ("", "")), "y": (0, ("", ""))})
APART = [("point", "a", "f", ""), ("point", "b", "f", ""), ("free", "x"), ("free", "y")]
QUIET = ("quiet",)


def parted(many, longest=9):
    """(graph, script, harms) for scripts without faults and without hopeless harms, on graphs where nothing is gone."""
    for seed in range(many):
        rng = random.Random(seed)
        graph = drawn_graph(rng)
        script = parted_script(rng, graph, rng.randint(0, longest))
        yield graph, script, sorted(told(graph, script)[4])


class SpansTest(unittest.TestCase):
    def test_in_gaps(self):
        script = [("new", "x"), ("free", "x")]
        for gaps, found in [([], script), ([0], [QUIET] + script), ([2], script + [QUIET]), ([1], [script[0], QUIET, script[1]]),
                            ([2, 0], [QUIET] + script + [QUIET]), ([1, 0, 2], [QUIET, script[0], QUIET, script[1], QUIET])]:
            self.assertEqual(in_gaps(script, gaps), found)
        self.assertEqual(in_gaps([], [0]), [QUIET])
        self.assertEqual(in_gaps([], []), [])
        self.assertEqual(in_gaps([QUIET], [0]), [QUIET, QUIET])
        new = in_gaps(script, [])
        self.assertIsNot(new, script)
        new.clear()
        self.assertEqual(len(script), 2)

    def test_spans(self):
        self.assertEqual(spans(LIST, []), [])
        self.assertEqual(spans(LIST, BOTH), [(1, 2, 2), (4, 5, 5)])
        self.assertEqual(spans(CHAIN, APART), [(1, 2, 2), (2, 3, 3)])
        self.assertEqual(spans(LIST, BOTH[:2]), [])
        # The cell x, held by elder walkers, still leads to y when this is freed.
        left = [("root", "r", ""), ("new", "z"), ("free", "y"), ("free", "x")]
        self.assertEqual(spans(LIST, left), [(1, 2, 2), (1, 3, 3)])
        gone = Graph(["f"], {"r": "x"}, {"x": (0, ("",)), "y": (1, ("",)), "z": (0, ("",))})
        later = [("point", "z", "f", "y"), ("free", "y"), ("root", "r", "z"), ("root", "r", "x")]
        with self.assertRaises(Hopeless) as caught:
            spans(gone, later)
        self.assertEqual(caught.exception.at, 2)
        # x is out of reach when it is led to what is gone then, or to a cell with a field that is gone.
        behind = [("root", "r", ""), ("point", "z", "f", "y"), ("free", "y"), ("new", "a"), ("point", "x", "f", "z"), ("point", "x", "f", "")]
        self.assertEqual(spans(gone, behind), [(1, 4, 4)])
        self.assertEqual(fewest(gone, behind), ([4], [(1, 4, 4)]))
        self.assertEqual(outcome(gone, behind), ("gone", 4))

    def test_held_and_gone_by_one_statement(self):
        graph = Graph(["f"], {"r": "w"}, {"w": (0, ("x",)), "x": (0, ("",)), "z": (0, ("x",))})
        script = [("root", "r", "z"), ("point", "w", "f", ""), ("root", "r", ""), ("free", "x")]
        self.assertEqual(spans(graph, script), [(3, 3, 3)])
        other = [("point", "w", "f", ""), ("point", "w", "f", "x"), ("root", "r", ""), ("point", "z", "f", ""), ("free", "x")]
        self.assertEqual(spans(graph, other), [(3, 4, 4)])
        apart = [("root", "r", "z"), ("root", "r", "x"), ("root", "r", ""), ("free", "x")]
        self.assertEqual(spans(graph, apart), [(2, 3, 3), (3, 3, 3)])
        self.assertEqual(fewest(graph, apart)[0], [3])
        self.assertIs(is_fewest(graph, apart, *fewest(graph, apart)), True)
        for harm in spans(graph, apart):
            self.assertIs(is_fewest(graph, apart, [3], [harm]), True)
        self.assertIs(is_fewest(graph, apart, [3], spans(graph, apart)), False)

    def test_spans_with_a_common_gap_are_not_apart(self):
        graph = Graph([], {"r": "v", "s": ""}, {"v": (0, ()), "w": (0, ()), "x": (0, ())})
        for script, harms in [
                ([("root", "r", "w"), ("new", "a"), ("free", "v"), ("root", "r", ""), ("free", "w")], [(1, 2, 2), (4, 4, 4)]),
                ([("root", "r", "w"), ("root", "r", ""), ("free", "v"), ("free", "w")], [(1, 2, 2), (2, 3, 3)]),
                ([("root", "s", "w"), ("root", "r", ""), ("root", "s", ""), ("new", "a"), ("free", "v"), ("free", "w")], [(2, 4, 4), (3, 5, 5)]),
                ([("root", "s", "w"), ("root", "r", ""), ("root", "s", ""), ("new", "a"), ("free", "w"), ("free", "v")], [(2, 5, 5), (3, 4, 4)])]:
            self.assertEqual(spans(graph, script), harms)
            common = harms[0][1] >= harms[1][0]
            gaps = [harms[0][1], harms[1][1]]
            self.assertIs(is_fewest(graph, script, gaps, harms), not common)
            self.assertEqual(len(fewest(graph, script)[0]), 1 if common else 2)
            if common:
                self.assertIs(is_fewest(graph, script, [harms[1][0]], harms[:1]), True)
                self.assertIs(is_fewest(graph, script, [harms[1][0]], harms[1:]), True)

    def test_fewest(self):
        self.assertEqual(fewest(LIST, []), ([], []))
        self.assertEqual(fewest(LIST, BOTH), ([2, 5], [(1, 2, 2), (4, 5, 5)]))
        self.assertEqual(fewest(CHAIN, APART), ([2], [(1, 2, 2)]))
        # The last one of three spans has a gap in common with the one ahead, not with the first.
        graph = Graph(["f", "g"], {"r": "u", "s": "w"}, {"u": (0, ("v", "x")), "v": (0, ("", "")), "w": (0, ("", "")), "x": (0, ("", ""))})
        script = [("point", "u", "f", ""), ("free", "v"), ("point", "u", "g", ""), ("root", "s", ""), ("free", "x"), ("free", "w")]
        self.assertEqual(spans(graph, script), [(1, 1, 1), (3, 4, 4), (4, 5, 5)])
        self.assertEqual(fewest(graph, script), ([1, 4], [(1, 1, 1), (3, 4, 4)]))
        gaps, apart = fewest(LIST, BOTH)
        gaps.clear()
        apart.clear()
        self.assertEqual(fewest(LIST, BOTH), ([2, 5], [(1, 2, 2), (4, 5, 5)]))

    def test_errors_and_their_order(self):
        fault, bad = ("new", "x"), ("free", "x")
        cases = [([QUIET], NotBare, 0), ([fault, bad, QUIET, QUIET], NotBare, 2), ([bad, fault, fault, QUIET], NotBare, 3),
                 ([bad, ("root", "r", ""), ("free", "x")], Broken, 2), ([bad], Hopeless, 0), ([("new", "z"), bad, ("new", "w")], Hopeless, 1),
                 ([("new", "z"), ("free", "y")], Hopeless, 1), ([fault, fault], Broken, 0)]
        calls = [spans, fewest, lambda graph, script: is_fewest(graph, script, [], []), lambda graph, script: is_fewest(graph, script, 5, None)]
        for script, error, at in cases:
            for call in calls:
                with self.assertRaises(error) as caught:
                    call(LIST, script)
                self.assertEqual(caught.exception.at, at)
                self.assertEqual(len(in_gaps(script, [0])), len(script) + 1)

    def test_is_fewest(self):
        good = [([2, 5], [(1, 2, 2), (4, 5, 5)]), ([5, 2], [(4, 5, 5), (1, 2, 2)]), ([1, 4], [(1, 2, 2), (4, 5, 5)])]
        bad = [([2], [(1, 2, 2)]), ([2, 5], [(1, 2, 2)]), ([2, 5], [(1, 2, 2), (1, 2, 2)]), ([2, 5], [(1, 2, 2), (4, 5, 4)]),
               ([2, 3], [(1, 2, 2), (4, 5, 5)]), ([2, 2], [(1, 2, 2), (4, 5, 5)]), ((2, 5), [(1, 2, 2), (4, 5, 5)]),
               ([2, 5], ((1, 2, 2), (4, 5, 5))), ([2, 5], [[1, 2, 2], [4, 5, 5]]), ([True, 5], [(1, 2, 2), (4, 5, 5)]),
               ([2, 5], [(True, 2, 2), (4, 5, 5)]), ([1, 2, 5], [(1, 2, 2), (4, 5, 5)]), ([2, 5, 7], [(1, 2, 2), (4, 5, 5)]),
               ([2, -1], [(1, 2, 2), (4, 5, 5)]), ([2, 5], [(1, 2), (4, 5, 5)]), ([], []), ([2, 10 ** 39], [(1, 2, 2), (4, 5, 5)]),
               ([0, 2, 5], [(1, 2, 2), (4, 5, 5), (4, 5, 5)])]
        for gaps, apart in good:
            self.assertIs(is_fewest(LIST, BOTH, gaps, apart), True)
        for gaps, apart in bad:
            self.assertIs(is_fewest(LIST, BOTH, gaps, apart), False, (gaps, apart))
        for thing in odd_values():
            self.assertIs(is_fewest(LIST, BOTH, thing, [(1, 2, 2), (4, 5, 5)]), False)
            self.assertIs(is_fewest(LIST, BOTH, [2, 5], thing), False)
            self.assertIs(is_fewest(LIST, BOTH, [2, thing], [(1, 2, 2), (4, 5, 5)]), False)
            self.assertIs(is_fewest(LIST, BOTH, [2, 5], [(1, 2, 2), thing]), False)
        self.assertIs(is_fewest(LIST, [], [], []), True)
        self.assertIs(is_fewest(LIST, [], [0], []), False)
        ones = [("root", "r", ""), ("free", "x")]
        self.assertIs(is_fewest(LIST, ones, [1], [(1, 1, 1)]), True)
        for thing in [(True, True, True), (1, 1, True), (1, True, 1)]:
            self.assertIs(is_fewest(LIST, ones, [1], [thing]), False)
        self.assertIs(is_fewest(LIST, ones, [True], [(1, 1, 1)]), False)

    def test_drawn_scripts(self):
        seen = set()
        for graph, script, harms in parted(400):
            self.assertEqual(spans(graph, script), harms)
            gaps, apart = fewest(graph, script)
            self.assertEqual(gaps, sorted(set(gaps)))
            self.assertEqual((len(gaps), sorted(set(apart))), (len(apart), apart))
            self.assertIs(is_fewest(graph, script, gaps, apart), True)
            self.assertEqual(outcome(graph, in_gaps(script, gaps)), ("right",))
            seen.add((len(harms), len(gaps)))
        self.assertTrue({(0, 0), (1, 1), (2, 1), (2, 2), (3, 2)} <= seen)

    def test_the_gaps_of_spans_and_no_others(self):
        for graph, script, harms in parted(80, 7):
            least = len(fewest(graph, script)[0])
            for many in range(least + 1):
                for gaps in itertools.combinations(range(len(script) + 1), many):
                    right = outcome(graph, in_gaps(script, list(gaps))) == ("right",)
                    self.assertIs(right, all(any(first <= gap <= last for gap in gaps) for first, last, at in harms))
                    self.assertFalse(right and many < least)

    def test_any_script(self):
        words = ("new", "copy", "mark", "point", "root", "root", "free", "free")
        seen = set()
        for graph, script in many_cases(250, words, 8):
            fault, holding, graphs, how, harms = told(graph, script)
            bad = [at for first, last, at in harms if first > last]
            error = Broken if fault is not None else Hopeless if bad else None
            seen.add(error)
            if error is None:
                self.assertEqual(spans(graph, script), sorted(harms))
                continue
            with self.assertRaises(error) as caught:
                spans(graph, script)
            self.assertEqual(caught.exception.at, min(bad) if fault is None else fault)
        self.assertEqual(seen, {None, Broken, Hopeless})


class IdleQuietsTest(unittest.TestCase):
    def test_quiets(self):
        self.assertEqual(idle_quiets(LIST, []), [])
        self.assertEqual(idle_quiets(LIST, [QUIET]), [0])
        self.assertEqual(idle_quiets(LIST, [("root", "r", ""), QUIET, ("free", "x")]), [])
        # Each of the two can be left out, though not both.
        self.assertEqual(idle_quiets(LIST, [QUIET, ("root", "r", ""), QUIET, ("new", "z"), QUIET, ("free", "x"), QUIET]), [0, 2, 4, 6])
        self.assertEqual(idle_quiets(LIST, in_gaps(BOTH, [0, 2, 5])), [0])

    def test_drawn_scripts(self):
        for number, (graph, script, harms) in enumerate(parted(120)):
            rng = random.Random(number)
            gaps = sorted(set(fewest(graph, script)[0]) | set(rng.sample(range(len(script) + 1), min(2, len(script)))))
            quieted = in_gaps(script, gaps)
            wanted = [at for at, part in enumerate(quieted)
                      if part == QUIET and told(graph, quieted[:at] + quieted[at + 1:])[3] == ("right",)]
            self.assertEqual(idle_quiets(graph, quieted), wanted)
