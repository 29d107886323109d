"""[83] plans, and [9] one switch."""
import unittest

from askless.changes import changes, shows
from askless.entries import can_log, log_of, logs, sides
from askless.errors import Broken, NoSwitch, TooFew
from askless.graphs import Graph
from askless.plans import plan, told_writes
from askless.scripts import is_script, moments, outcome
from askless.switches import copies, switches
from tests.scripted import Stand, many_cases, told
from tests.shown import all_changes, all_entries, made, pairs, parts_of_graph
from tests.test_changes import ONE, OTHER, PATH

NAMES = ["na", "nb", "nc", "nd", "ne"]


def graphs_behind(graph, script):
    stand = Stand(graph)
    assert all([stand.do(statement) for statement in script])
    return stand.graph()


def with_copies(other, taken):
    """The graph other with copies in the place of copied cells."""
    fields, roots, cells = parts_of_graph(other)
    named = {x: taken.get(x, x) for x in cells}
    named[""] = ""
    cells = {named[x]: (mark, tuple(named[y] for y in targets)) for x, (mark, targets) in cells.items()}
    return Graph(fields, {r: named[x] for r, x in roots.items()}, cells, labels={named[x]: x for x in other.cells()})


class PlanTest(unittest.TestCase):
    def refused(self, error, one, other, names):
        with self.assertRaises(error) as caught:
            plan(one, other, names)
        return caught.exception

    def test_plans(self):
        script, taken = plan(ONE, OTHER, ["copy"])
        self.assertEqual(taken, {"y": "copy"})
        self.assertEqual(outcome(ONE, script), ("right",))
        self.assertEqual([statement for statement in script if statement[0] in ("copy", "free", "quiet")],
                         [("copy", "copy", "y"), ("quiet",), ("free", "y")])
        self.assertEqual(plan(ONE, ONE, []), ([], {}))
        self.assertEqual(plan(ONE, OTHER, ["n", "m"])[1], {"y": "n"})
        self.assertEqual(graphs_behind(ONE, script), with_copies(OTHER, taken))

    def test_plans_without_a_quiet(self):
        empty = Graph(["f"], {"r": ""}, {})
        fresh = Graph(["f"], {"r": "x"}, {"x": (0, ("y",)), "y": (2, ("",))})
        script, taken = plan(empty, fresh, [])
        self.assertEqual((taken, outcome(empty, script), script[-1]), ({}, ("right",), ("root", "r", "x")))
        self.assertNotIn(("quiet",), script)
        script, taken = plan(fresh, empty, [])
        self.assertEqual(script, [("root", "r", ""), ("quiet",), ("free", "x"), ("free", "y")])
        # Cells that no walker can hold are written, freed or made, though nothing changes.
        idle = Graph(["f"], {"r": ""}, {"x": (1, ("",)), "z": (0, ("x",))})
        script, taken = plan(empty, idle, [])
        self.assertEqual((graphs_behind(empty, script), taken), (idle, {}))
        self.assertNotIn(("quiet",), script)
        script, taken = plan(idle, empty, [])
        self.assertEqual((graphs_behind(idle, script), script.count(("quiet",))), (empty, 1))
        # What other does not reach is written behind the switch, if one reached it.
        left = Graph(["f"], {"r": ""}, {"x": (0, ("x",)), "y": (2, ("",))})
        script, taken = plan(fresh, left, [])
        self.assertEqual((graphs_behind(fresh, script), taken, script[:2]), (left, {}, [("root", "r", ""), ("quiet",)]))

    def test_errors(self):
        two = [Graph(["f"], {"r": "", "s": ""}, {}), Graph(["f"], {"r": "x", "s": "x"}, {"x": (0, ("",))})]
        self.assertEqual(self.refused(NoSwitch, *two, []).place, ())
        self.assertEqual(self.refused(NoSwitch, *two, NAMES).place, ())
        self.assertEqual(self.refused(TooFew, ONE, OTHER, []).many, 1)
        ring = Graph(["f"], {"r": "x"}, {"x": (0, ("y",)), "y": (0, ("z",)), "z": (0, ("x",))})
        turned = Graph(["f"], {"r": "x"}, {"x": (0, ("z",)), "y": (0, ("x",)), "z": (0, ("y",))})
        self.assertEqual(switches(ring, turned), [("root", "r"), ("field", "x", "f")])
        self.assertEqual(self.refused(TooFew, ring, turned, ["a"]).many, 2)
        self.assertEqual(plan(ring, turned, ["b", "a", "c"])[1], {"y": "b", "z": "a"})

    def test_copies_in_the_fields_of_copies(self):
        """Copies lead to copies, in a ring too."""
        one = Graph(["f", "g"], {"r": "x"}, {"x": (0, ("y", "")), "y": (0, ("z", "y")), "z": (0, ("y", "x"))})
        other = Graph(["f", "g"], {"r": "x"}, {"x": (0, ("y", "")), "y": (1, ("z", "y")), "z": (1, ("y", ""))})
        script, taken = plan(one, other, ["a", "b"])
        self.assertEqual(taken, {"y": "a", "z": "b"})
        last = moments(one, script)[-1]
        self.assertEqual([last[("field", "a", "f")], last[("field", "a", "g")], last[("field", "b", "f")], last[("field", "x", "f")]],
                         ["b", "a", "a", "a"])
        self.assertEqual([last.label("a"), last.label("b"), last.cells()], ["y", "z", ["a", "b", "x"]])

    def test_drawn_pairs(self):
        planned = 0
        for one, other in pairs(400):
            found = switches(one, other)
            if all_changes(one, other) and not found:
                self.assertEqual(self.refused(NoSwitch, one, other, NAMES).place, ())
                continue
            many = copies(one, other, found[-1]) if found else []
            if many:
                self.assertEqual(self.refused(TooFew, one, other, NAMES[:len(many) - 1]).many, len(many))
            script, taken = plan(one, other, NAMES)
            self.check_plan(one, other, script, taken, many, found)
            planned += len(many) > 0
        self.assertGreater(planned, 30)

    def check_plan(self, one, other, script, taken, many, found):
        self.assertEqual(list(taken.items()), list(zip(many, NAMES)))
        self.assertIs(is_script(script), True)
        self.assertEqual(outcome(one, script), ("right",))
        last = graphs_behind(one, script)
        self.assertEqual(last, with_copies(other, taken))
        self.assertIs(shows(last, other), True)
        news = sorted(statement[1] for statement in script if statement[0] == "new")
        self.assertEqual(news, sorted(set(other.cells()) - set(one.cells())))
        self.assertEqual(sorted(statement[1:] for statement in script if statement[0] == "copy"), sorted((taken[x], x) for x in taken))
        freed = sorted(statement[1] for statement in script if statement[0] == "free")
        self.assertEqual(freed, sorted(set(many) | (set(one.cells()) - set(other.cells()))))
        writes = told_writes(one, script)
        self.assertEqual(len(writes), 1 if found else 0)
        behind = [at for at, statement in enumerate(script) if statement[0] in ("mark", "point", "root")]
        none = not freed and (not found or behind[-1:] == writes)
        self.assertEqual(script.count(("quiet",)), 0 if none else 1)

    def test_every_entry_has_the_log_of_the_first_or_the_last_graph(self):
        many = 0
        for one, other in pairs(120):
            places = max(len(graph.roots()) + len(graph.reached()) * (1 + len(graph.fields())) for graph in (one, other))
            if places > 6 or not switches(one, other):
                continue
            script, taken = plan(one, other, NAMES)
            for walk in all_entries(one, script, 3):
                log = log_of(one, script, list(walk))
                self.assertTrue(sides(one, script, list(walk)))
                self.assertTrue(can_log(one, log) or can_log(other, log))
                many += 1
        self.assertGreater(many, 2000)

    def test_arguments_stay_and_results_are_new(self):
        one, other, names = ONE.copied(), OTHER.copied(), ["a", "b"]
        script, taken = plan(one, other, names)
        told_writes(one, script)
        self.assertEqual((one, other, names), (ONE, OTHER, ["a", "b"]))
        again = plan(one, other, names)
        script.clear()
        taken.clear()
        self.assertEqual(plan(one, other, names), again)

    def test_sixty_cells(self):
        names = ["c" + chr(97 + k // 8) + chr(97 + k % 8) for k in range(60)]
        one = Graph(["f"], {"r": names[0]}, {x: (0, (y,)) for x, y in zip(names, names[1:] + names[:1])})
        other = one.copied()
        other[("mark", names[1])] = 1
        other[("mark", names[59])] = 1
        more = ["d" + name for name in names]
        script, taken = plan(one, other, more)
        self.assertEqual((len(taken), outcome(one, script), len(told_writes(one, script))), (59, ("right",), 1))
        self.assertEqual(moments(one, script)[-1], with_copies(other, taken))


class ToldTest(unittest.TestCase):
    def test_told_writes(self):
        graph = Graph(["f"], {"r": "x"}, {"x": (0, ("y",)), "y": (1, ("",)), "z": (0, ("?",))})
        for statement, telling in [(("mark", "x", 0), False), (("mark", "x", 1), True), (("mark", "z", 1), False), (("point", "x", "f", "y"), False),
                                (("point", "x", "f", ""), True), (("point", "z", "f", "x"), False), (("root", "r", "x"), False),
                                (("root", "r", "z"), True), (("root", "r", ""), True), (("new", "q"), False), (("copy", "q", "x"), False),
                                (("quiet",), False), (("free", "z"), False)]:
            self.assertEqual(told_writes(graph, [statement]), [0] if telling else [], statement)
            self.assertEqual(told_writes(graph, [("new", "w"), statement]), [1] if telling else [])
        # What was held stays held until a quiet.
        script = [("root", "r", ""), ("mark", "x", 1), ("quiet",), ("mark", "x", 2), ("root", "r", "x"), ("mark", "x", 3)]
        self.assertEqual(told_writes(graph, script), [0, 1, 4, 5])
        self.assertEqual(told_writes(Graph([], {"r": "?"}, {}), [("root", "r", "")]), [0])
        for at, script in [(0, [("new", "x")]), (2, [("mark", "x", 1), ("quiet",), ("mark", "q", 1), ("new", "x")]), (1, [("quiet",), ("root", "q", "")])]:
            with self.assertRaises(Broken) as caught:
                told_writes(graph, script)
            self.assertEqual(caught.exception.at, at)
        self.assertEqual(told_writes(graph, []), [])

    def test_drawn_scripts(self):
        for graph, script in many_cases(250):
            fault, held, graphs, how, harms = told(graph, script)
            if fault is not None:
                with self.assertRaises(Broken) as caught:
                    told_writes(graph, script)
                self.assertEqual(caught.exception.at, fault)
                continue
            found = []
            for at, statement in enumerate(script):
                if statement[0] in ("mark", "point", "root"):
                    place = ("field",) + statement[1:3] if statement[0] == "point" else statement[:2]
                    if graphs[at][place] != statement[-1] and (statement[0] == "root" or statement[1] in held[at]):
                        found.append(at)
            self.assertEqual(told_writes(graph, script), found)

    def test_one_told_write_shows_nothing_between(self):
        """With at most one, a script whose outcome is right has no entry whose log is of neither graph."""
        many = 0
        for graph, script in many_cases(400, ("new", "copy", "mark", "point", "root", "quiet", "free"), 5):
            if outcome(graph, script) == ("right",) and len(told_writes(graph, script)) <= 1:
                if "?" not in [graph[place] for place in graph.places()]:
                    for walk in all_entries(graph, script, 2)[:200]:
                        self.assertTrue(sides(graph, script, list(walk)))
                        many += 1
        self.assertGreater(many, 1000)


class Showing:
    """All that scripts can do which show every entry of one graph or the other: what stands, and all walkers."""

    def __init__(self, one, other, budget, names):
        self.one, self.other, self.names = one, other, names
        self.known = {tuple(log) for graph in (one, other) for log in logs(graph)}
        self.marks = sorted({graph[place] for graph in (one, other) for place in graph.places() if place[0] == "mark"} | {0})
        self.budget = budget

    def key(self, stand):
        return (tuple(sorted(stand.root.items())),
                tuple(sorted((x, part[0], part[1], tuple(sorted(part[2].items()))) for x, part in stand.cell.items())))

    def settled(self, stand, walkers):
        """All walkers that there can be now, or None if one of them has a log of neither graph, or meets what is gone."""
        found = set(walkers) | {((), (), ())}
        line = list(found)
        while line:
            log, come, visited = line.pop()
            places = [("root", r) for r in stand.root] + [("mark", x) for x in come] + [("field", x, f) for x in come for f in stand.fields]
            for place in places:
                worth = stand.read(place)
                if worth == "?":
                    return None
                if place in visited:
                    continue
                more = come + (worth,) if place[0] != "mark" and worth and worth not in come else come
                head = (place[0],) + ((place[1],) if place[0] == "root" else (come.index(place[1]),) + place[2:])
                tail = (worth,) if place[0] == "mark" else (more.index(worth), stand.cell[worth][0]) if worth else (-1, "")
                new = (log + (head + tail,), more, tuple(sorted(visited + (place,))))
                if new[0] not in self.known:
                    return None
                if new not in found:
                    found.add(new)
                    line.append(new)
        return frozenset(found)

    def statements(self, stand, made_yet):
        names = sorted(stand.cell)
        yield ("quiet",)
        for x in sorted(set(self.names) - set(names)) if made_yet < self.budget else []:
            yield ("new", x)
            for y in names:
                yield ("copy", x, y)
        for x in names:
            yield ("free", x)
            for k in self.marks:
                yield ("mark", x, k)
            for f in stand.fields:
                for y in names + [""]:
                    yield ("point", x, f, y)
        for r in stand.root:
            for y in names + [""]:
                yield ("root", r, y)

    def can_show(self, most):
        """Whether some script shows the change whole; None if that is too much to look at."""
        first = self.settled(Stand(self.one), [])
        begin = (self.key(Stand(self.one)), first, 0)
        seen, line = {begin}, [(Stand(self.one).graph(), first, 0)]
        while line:
            graph, walkers, made_yet = line.pop()
            if shows(graph, self.other):
                return True
            for statement in self.statements(Stand(graph), made_yet):
                stand = Stand(graph)
                stand.do(statement)
                if statement[0] == "free" and any(statement[1] in walker[1] for walker in walkers):
                    continue
                now = self.settled(stand, [] if statement == ("quiet",) else walkers)
                many = made_yet + (statement[0] in ("new", "copy"))
                if now is not None and (self.key(stand), now, many) not in seen:
                    seen.add((self.key(stand), now, many))
                    line.append((stand.graph(), now, many))
            if len(seen) > most:
                return None
        return False


class OneSwitchTest(unittest.TestCase):
    def test_fewer_copies_are_not_enough(self):
        """With one copy fewer no script shows the change whole; without a switch none does."""
        one = made(["f"], {"r": "x"}, {"x": [0, ["y"]], "y": [0, [""]]})
        found = {"fewer": 0, "none": 0}
        cases = [(one, made(["f"], {"r": "x"}, {"x": [0, ["y"]], "y": [1, ["x"]]})),
                 (one, made(["f"], {"r": "x"}, {"x": [1, ["y"]], "y": [1, [""]]})),
                 (made([], {"r": "", "s": ""}, {"x": [0, []]}), made([], {"r": "x", "s": "x"}, {"x": [0, []]})),
                 (made([], {"r": "x", "s": ""}, {"x": [0, []]}), made([], {"r": "x", "s": ""}, {"x": [1, []]}))] + pairs(400)
        for one, other in cases:
            small = len(one) <= 2 and len(other) <= 3 and len(one.fields()) < 2
            if not changes(one, other) or not small or set(one.reached()) != set(one.cells()) or set(other.reached()) != set(other.cells()):
                continue
            places = max(len(graph.roots()) + len(graph) * (1 + len(graph.fields())) for graph in (one, other))
            fresh, switch = len(set(other.cells()) - set(one.cells())), switches(one, other)[-1:]
            if places + fresh > 6:
                continue
            copied = copies(one, other, switch[0]) if switch else []
            if switch and copied:
                names = sorted(set(one.cells()) | set(other.cells())) + ["n"]
                shown = Showing(one, other, fresh + len(copied) - 1, names).can_show(2000)
                self.assertIsNot(shown, True)
                found["fewer"] += shown is False
            elif not switch:
                names = sorted(set(one.cells()) | set(other.cells())) + ["n"]
                shown = Showing(one, other, fresh + 1, names).can_show(2000)
                self.assertIsNot(shown, True)
                found["none"] += shown is False
        self.assertGreater(min(found.values()), 1)

    def test_as_many_copies_are_enough(self):
        """The search that finds no script with fewer copies finds one with as many."""
        one = made(["f"], {"r": "x"}, {"x": [0, ["y"]], "y": [0, [""]]})
        for other in [made(["f"], {"r": "x"}, {"x": [0, ["y"]], "y": [1, ["x"]]}), made(["f"], {"r": "x"}, {"x": [0, ["y"]], "y": [1, [""]]})]:
            many = len(copies(one, other, switches(one, other)[-1]))
            self.assertIs(Showing(one, other, many, ["n", "x", "y"]).can_show(100000), True)
