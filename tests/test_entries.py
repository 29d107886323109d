"""[80] entries."""
import inspect
import itertools
import random
import unittest

from askless.entries import can_log, log_of, logs, sides
from askless.errors import NoRead
from askless.graphs import Graph
from tests.scripted import drawn_graph, drawn_script, many_cases
from tests.shown import all_entries, all_logs, log_along
from tests.values import nested, odd_values

CHAIN = Graph(["f"], {"r": "x"}, {"x": (0, ("y",)), "y": (1, ("",))}, labels={"y": "told"})
TAKE = [("mark", "x", 2), ("point", "x", "f", ""), ("quiet",), ("free", "y")]
ROOT, FIELD = (0, ("root", "r")), (0, ("field", "x", "f"))
BIG = 10 ** 39


class LogTest(unittest.TestCase):
    def refused(self, script, walk):
        with self.assertRaises(NoRead) as caught:
            log_of(CHAIN, script, walk)
        return caught.exception.at

    def test_logs_of_entries(self):
        self.assertEqual(log_of(CHAIN, TAKE, []), [])
        self.assertEqual(log_of(CHAIN, [], [ROOT, FIELD, (0, ("mark", "y")), (0, ("field", "y", "f")), (0, ("mark", "x"))]),
                         [("root", "r", 0, "x"), ("field", 0, "f", 1, "told"), ("mark", 1, 1), ("field", 1, "f", -1, ""), ("mark", 0, 0)])
        self.assertEqual(log_of(CHAIN, TAKE, [ROOT, (1, ("mark", "x")), (2, ("field", "x", "f"))]),
                         [("root", "r", 0, "x"), ("mark", 0, 2), ("field", 0, "f", -1, "")])
        self.assertEqual(log_of(CHAIN, TAKE, [(3, ("root", "r")), (4, ("mark", "x"))]), [("root", "r", 0, "x"), ("mark", 0, 2)])
        # A cell that comes twice keeps its number.
        ring = Graph(["f", "g"], {"r": "b", "s": "a"}, {"a": (0, ("b", "a")), "b": (3, ("a", "b"))}, labels={"a": "b"})
        walk = [(0, ("root", "r")), (0, ("field", "b", "f")), (0, ("root", "s")), (0, ("field", "a", "f")), (0, ("field", "a", "g"))]
        self.assertEqual(log_of(ring, [], walk), [("root", "r", 0, "b"), ("field", 0, "f", 1, "b"), ("root", "s", 1, "b"),
                                                  ("field", 1, "f", 0, "b"), ("field", 1, "g", 1, "b")])

    def test_copies_have_the_label_of_the_first_one(self):
        script = [("copy", "z", "y"), ("point", "x", "f", "z")]
        self.assertEqual(log_of(CHAIN, script, [(2, ("root", "r")), (2, ("field", "x", "f"))]),
                         [("root", "r", 0, "x"), ("field", 0, "f", 1, "told")])

    def test_no_entries(self):
        for at, script, walk in [
                (0, [], [FIELD]), (0, [], [(1, ("root", "r"))]), (0, [], [(-1, ("root", "r"))]), (0, [], [(BIG, ("root", "r"))]),
                (0, [], [(-BIG, ("root", "r"))]), (0, [], [(0, ("root", "q"))]), (0, [], [(0, ("mark", "x"))]), (1, [], [ROOT, ROOT]),
                (1, [], [ROOT, (0, ("field", "x", "h"))]), (1, [], [ROOT, (0, ("mark", "y"))]), (1, [], [ROOT, (0, ("mark", "q"))]),
                (3, [], [ROOT, FIELD, (0, ("mark", "x")), FIELD, ROOT]), (1, TAKE, [ROOT, (3, ("mark", "x"))]),
                (1, TAKE, [(1, ("root", "r")), (0, ("mark", "x"))]), (2, TAKE, [ROOT, FIELD, (4, ("mark", "x"))]),
                (1, TAKE, [(2, ("root", "r")), (3, ("mark", "x"))]), (2, TAKE[1:2] + TAKE[3:], [ROOT, FIELD, (2, ("mark", "x"))]),
                (0, [("free", "q")], [(1, ("root", "r"))]), (0, [("quiet",), ("new", "x")], [(2, ("root", "r"))]),
                (1, [("new", "x")], [ROOT, (1, ("mark", "x"))]), (1, [("free", "y")], [ROOT, (1, ("field", "x", "f"))]),
                (0, [("free", "x")], [(1, ("root", "r"))])]:
            self.assertEqual(self.refused(script, walk), at, (script, walk))

    def test_quiets_ahead_of_the_first_read_and_at_the_last_moment(self):
        self.assertEqual(log_of(CHAIN, TAKE, [(2, ("root", "r")), (2, ("mark", "x"))]), [("root", "r", 0, "x"), ("mark", 0, 2)])
        self.assertEqual(log_of(CHAIN, TAKE, [(3, ("root", "r"))]), [("root", "r", 0, "x")])

    def test_many_reads(self):
        self.assertEqual(self.refused([], [ROOT] * 1000000), 1)
        self.assertEqual(self.refused([], [ROOT, FIELD] + [(0, ("mark", "q"))] * 1000000), 2)

    def test_arguments_stay(self):
        graph, script, walk = CHAIN.copied(), list(TAKE), [ROOT, FIELD, (1, ("mark", "y"))]
        one = log_of(graph, script, walk)
        sides(graph, script, walk)
        can_log(graph, one)
        self.assertEqual((graph, script, walk), (CHAIN, TAKE, [ROOT, FIELD, (1, ("mark", "y"))]))
        two = log_of(graph, script, walk)
        one.clear()
        self.assertEqual((len(two), log_of(graph, script, walk)), (3, two))

    def test_all_entries_of_drawn_scripts(self):
        words = ("new", "copy", "mark", "point", "root", "root", "free", "quiet")
        for number, (graph, script) in enumerate(many_cases(60, words, 4)):
            found = set(all_entries(graph, script, 2))
            for walk in sorted(found):
                self.assertEqual(log_of(graph, script, list(walk)), log_along(graph, script, walk))
            places = [("root", "r"), ("root", "s")] + [("mark", x) for x in "wxyz"] + [("field", x, f) for x in "wxyz" for f in "fgh"]
            stops = [(moment, place) for moment in range(-1, len(script) + 2) for place in places]
            for walk in random.Random(number).sample(list(itertools.product(stops, repeat=2)), 200):
                if walk not in found:
                    with self.assertRaises(NoRead) as caught:
                        log_of(graph, script, list(walk))
                    self.assertEqual(caught.exception.at, 1 if walk[:1] in found else 0)


class CanLogTest(unittest.TestCase):
    def test_logs_of_a_graph(self):
        good = [[], [("root", "r", 0, "x")], [("root", "r", 0, "x"), ("mark", 0, 0), ("field", 0, "f", 1, "told"), ("mark", 1, 1), ("field", 1, "f", -1, "")]]
        for log in good:
            self.assertIs(can_log(CHAIN, log), True)
        root = good[1]
        bad = [tuple(good[1]), [list(root[0])], [("root", "r", 0)], [("root", "r", 0, "y")], [("root", "r", -1, "")], [("root", "r", 1, "x")],
               [("root", "r", False, "x")], [("root", "r", 0, "x", 0)], [("root", "q", 0, "x")], [("root", 0, 0, "x")], [("root", ["r"], 0, "x")],
               root + [("mark", 0, False)], root + [("mark", False, 0)], root + [("mark", 0, 1)], root + [("mark", 1, 1)], root + [("mark", -1, 0)],
               root + [("mark", BIG, 0)], root + [("mark", -BIG, 0)], root + [("mark", "x", 0)], root * 2, root + [("field", 0, "f", 1, "y")],
               root + [("field", 0, "f", 0, "told")], root + [("field", 0, "g", 1, "told")], root + [("field", 0, "f", True, "told")],
               root + [("field", 0, "f", 1)], root + [("field", 0, 0, 1, "told")], root + [("field", "f", 0, 1, "told")], [("mark", 0, 0)], [()],
               [("",)], [("field", 0, "f", 1, "told")], good[2] + [("root", "r", 0, "x")], [("mark", "r", 0, "x")], [("root", 0, "r")],
               [("field", "r", 0, "x")], root + [("mark", 0, 0, 0)], root + [("mark", 0)], root + [("mark", 0, "", 0, 0)]]
        for log in bad:
            self.assertIs(can_log(CHAIN, log), False, log)
        for thing in odd_values():
            self.assertIs(can_log(CHAIN, thing), isinstance(thing, list) and len(thing) == 0)
            self.assertIs(can_log(CHAIN, [thing]), False)
            self.assertIs(can_log(CHAIN, [thing] + root), False)
            self.assertIs(can_log(CHAIN, root + [thing]), False)
            self.assertIs(can_log(CHAIN, root + [("mark", 0, thing)]), False)
            self.assertIs(can_log(CHAIN, root + [("mark", thing, 0)]), False)
        self.assertIs(can_log(CHAIN, [("root", "r", 0, nested(58, (), lambda parts: tuple(parts)))]), False)
        self.assertIs(can_log(CHAIN, root * 250000), False)

    def test_what_is_gone_is_not_logged(self):
        gone = Graph(["f"], {"r": "x", "s": "?"}, {"x": (0, ("?",))})
        self.assertEqual(list(logs(gone)), [[], [("root", "r", 0, "x")], [("root", "r", 0, "x"), ("mark", 0, 0)]])
        for read in [("root", "s", -1, ""), ("root", "s", 0, "?"), ("root", "s", -1, "?")]:
            self.assertIs(can_log(gone, [read]), False)
        self.assertIs(can_log(gone, [("root", "r", 0, "x"), ("field", 0, "f", -1, "")]), False)

    def test_drawn_graphs(self):
        for seed in range(60):
            rng = random.Random(seed)
            graph, other = drawn_graph(rng, 0.1), drawn_graph(rng, 0.1)
            found = all_logs(graph, 3)
            for log in found[:300]:
                self.assertIs(can_log(graph, log), True)
            for log in all_logs(other, 3)[:300]:
                self.assertIs(can_log(graph, log), log in found)


class LogsTest(unittest.TestCase):
    def test_logs(self):
        self.assertTrue(inspect.isgeneratorfunction(logs))
        self.assertEqual(list(logs(Graph([], {"r": ""}, {}))), [[], [("root", "r", -1, "")]])
        pair = Graph([], {"s": "x", "r": "x"}, {"x": (2, ()), "y": (0, ())})
        one, two, mark = ("root", "r", 0, "x"), ("root", "s", 0, "x"), ("mark", 0, 2)
        self.assertEqual(list(logs(pair)), [[], [one], [two], [one, mark], [one, two], [two, mark], [two, one],
                                            [one, mark, two], [one, two, mark], [two, mark, one], [two, one, mark]])

    def test_left_early(self):
        graph = CHAIN.copied()
        for log in logs(graph):
            log.append("more")
            break
        found = []
        for log in logs(graph):
            if len(log) > 2:
                break
            found.append(list(log))
            log.clear()
        self.assertEqual(found, [log for log in all_logs(CHAIN) if len(log) < 3])
        self.assertEqual(graph, CHAIN)

    def test_all_logs_of_drawn_graphs(self):
        many = 0
        for seed in range(80):
            graph = drawn_graph(random.Random(seed), 0.1 if seed % 3 == 0 else 0)
            places = len(graph.roots()) + len(graph.reached()) * (1 + len(graph.fields()))
            if places > 6:
                continue
            many += 1
            found = list(logs(graph))
            self.assertEqual(found, all_logs(graph, places))
            self.assertEqual(len({id(log) for log in found}), len(found))
            self.assertTrue(all(can_log(graph, log) for log in found))
        self.assertGreater(many, 20)

    def test_eight_places(self):
        wide = Graph(["f", "g"], {"r": "x", "s": "y"}, {"x": (0, ("y", "")), "y": (1, ("x", "y"))})
        found = list(logs(wide))
        self.assertEqual(found, sorted(found, key=lambda log: (len(log), log)))
        self.assertEqual(len({tuple(log) for log in found}), len(found))
        self.assertTrue(all(can_log(wide, log) for log in found[::37]))
        # Each place once, of a cell only when it has come.
        orders = 0
        for order in itertools.permutations(wide.places()):
            come = set()
            for place in order:
                if place[0] != "root" and place[1] not in come:
                    break
                come.add(wide[place])
            else:
                orders += 1
        self.assertEqual([len(log) for log in found].count(8), orders)


class SidesTest(unittest.TestCase):
    def test_sides(self):
        graph = Graph([], {"r": "x"}, {"x": (0, ())})
        script = [("mark", "x", 1), ("mark", "x", 2)]
        for walk, told in [([], ["first", "last"]), ([(1, ("root", "r"))], ["first", "last"]), ([ROOT, (0, ("mark", "x"))], ["first"]),
                           ([ROOT, (1, ("mark", "x"))], []), ([ROOT, (2, ("mark", "x"))], ["last"])]:
            self.assertEqual(sides(graph, script, walk), told)
        self.assertEqual(sides(graph, [], [ROOT, (0, ("mark", "x"))]), ["first", "last"])
        # Behind a fault there is no last moment.
        self.assertEqual(sides(graph, script[:1] + [("new", "x")], [(1, ("root", "r"))]), ["first"])
        with self.assertRaises(NoRead) as caught:
            sides(graph, script, [ROOT, ROOT])
        self.assertEqual(caught.exception.at, 1)
        one, two = sides(graph, script, []), sides(graph, script, [])
        one.clear()
        self.assertEqual(two, ["first", "last"])

    def test_sides_of_drawn_entries(self):
        told = set()
        for seed in range(40):
            rng = random.Random(seed)
            graph = drawn_graph(rng)
            script = drawn_script(rng, graph, 4, ["root", "point", "mark", "new", "copy", "quiet", "free"], 0)
            first, last = all_logs(graph, 2), all_logs_behind(graph, script)
            for walk in rng.sample(sorted(all_entries(graph, script, 2)), 20) if len(all_entries(graph, script, 2)) > 20 else []:
                log = log_along(graph, script, walk)
                expected = ["first"] * (log in first) + ["last"] * (log in last)
                self.assertEqual(sides(graph, script, list(walk)), expected)
                told.add(tuple(expected))
        self.assertEqual(told, {("first", "last"), ("first",), ("last",), ()})


def all_logs_behind(graph, script):
    walks = [walk for walk in all_entries(graph, script, 2) if not walk or walk[0][0] == len(script)]
    return [log_along(graph, script, walk) for walk in walks]
