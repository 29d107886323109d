"""[82] switches."""
import unittest

from askless.changes import is_way
from askless.errors import NoSwitch
from askless.graphs import Graph
from askless.switches import copies, switches, two_ways
from tests.shown import all_changes, all_ways, pairs, reached_from
from tests.test_changes import ONE, OTHER, PATH
from tests.values import odd_values


def made(roots, fields=("f",), **cells):
    return Graph(fields, roots, cells)


class SwitchTest(unittest.TestCase):
    def test_switches(self):
        self.assertEqual(switches(ONE, OTHER), PATH)
        self.assertEqual(switches(ONE, ONE), [])
        # In the order of the ways, not in Python's.
        one, other = made({"r": "z"}, z=(0, ("a",)), a=(0, ("",))), made({"r": "z"}, z=(0, ("a",)), a=(1, ("",)))
        self.assertEqual(switches(one, other), [("root", "r"), ("field", "z", "f"), ("mark", "a")])
        both = made({"r": "z", "s": "a"}, z=(0, ("a",)), a=(0, ("",)))
        changed = made({"r": "z", "s": "a"}, z=(0, ("a",)), a=(1, ("",)))
        self.assertEqual([switches(both, changed), two_ways(one, other)], [[("mark", "a")], None])
        twice = made({"r": "z", "s": "a"}, z=(0, ("a",)), a=(1, ("z",)))
        self.assertEqual(switches(both, twice), [])
        # Changes of which none is reached by both are none.
        self.assertEqual(switches(made({"r": ""}, a=(0, ("",))), made({"r": ""}, a=(1, ("",)))), [])

    def test_two_ways(self):
        self.assertIs(two_ways(ONE, OTHER), None)
        self.assertIs(two_ways(ONE, ONE), None)
        one, other = made({"r": "", "s": ""}), made({"r": "x", "s": "x"}, x=(0, ("",)))
        self.assertEqual(sorted(two_ways(one, other)), [[("root", "r")], [("root", "s")]])
        # The shortest way takes what the other way needs: there it goes another way round.
        places = {"a": ("d", "c"), "b": ("d", ""), "c": ("e", ""), "d": ("", ""), "e": ("", "")}
        turned = Graph(("f", "g"), {"r": "a", "s": "b"}, {x: (0, part) for x, part in places.items()})
        marked = turned.copied()
        marked[("mark", "d")] = marked[("mark", "e")] = 1
        found = two_ways(turned, marked)
        self.assertEqual(sorted(found), [[("root", "r"), ("field", "a", "g"), ("field", "c", "f"), ("mark", "e")],
                                         [("root", "s"), ("field", "b", "f"), ("mark", "d")]])
        fields = ("f", "g")
        cells = {"a": ("c", "b"), "b": ("d", ""), "c": ("d", "e"), "d": ("e", ""), "e": ("", "")}
        one = Graph(fields, {"r": "a", "s": "c"}, {x: (0, part) for x, part in cells.items()})
        other = one.copied()
        other[("mark", "e")] = 1
        other[("field", "e", "f")] = "a"
        found = two_ways(one, other)
        self.check_two(one, other, found)

    def check_two(self, one, other, found):
        self.assertEqual((type(found), len(found)), (tuple, 2))
        self.assertTrue(all(is_way(one, other, way) for way in found))
        self.assertEqual(set(found[0]) & set(found[1]), set())
        found[0].clear()

    def test_copies(self):
        self.assertEqual([copies(ONE, OTHER, place) for place in PATH], [["x", "y"], ["y"]])
        # A switch that is a mark.
        one, other = made({"r": "x"}, x=(0, ("",))), made({"r": "x"}, x=(1, ("",)))
        self.assertEqual([copies(one, other, place) for place in switches(one, other)], [["x"], []])
        # A switch that is a change, with nothing else to change.
        moved = made({"r": ""}, x=(0, ("",)))
        self.assertEqual([switches(one, moved), copies(one, moved, ("root", "r"))], [[("root", "r")], []])
        # A new cell ahead of an old one that changes, and a ring back to the switch.
        old = made({"r": "a"}, a=(0, ("b",)), b=(0, ("a",)))
        new = made({"r": "a"}, a=(0, ("n",)), b=(1, ("a",)), n=(0, ("b",)))
        self.assertEqual([switches(old, new), copies(old, new, ("field", "a", "f"))], [PATH[:1] + [("field", "a", "f")], ["b"]])
        # What the first graph does not reach is not copied.
        old = Graph(("f", "g"), {"r": "a"}, {"a": (0, ("b", "")), "b": (0, ("c", "")), "c": (0, ("", "")), "d": (0, ("", ""))})
        new = Graph(("f", "g"), {"r": "a"}, {"a": (0, ("b", "")), "b": (0, ("", "c")), "c": (0, ("", "d")), "d": (1, ("", ""))})
        self.assertEqual(copies(old, new, ("field", "a", "f")), ["b", "c"])

    def test_no_switches(self):
        for one, other in [(ONE, OTHER), (ONE, ONE), (made({"r": ""}), made({"r": ""}))]:
            for place in odd_values() + [("mark", "y"), ("field", "y", "to"), ("root", "s"), list(PATH[0]), ("mark", "q"), PATH, ("root",), ("",) * 1000000]:
                with self.assertRaises(NoSwitch) as caught:
                    copies(one, other, place)
                self.assertIs(caught.exception.place, place)

    def test_results_are_new(self):
        one, two = copies(ONE, OTHER, PATH[0]), switches(ONE, OTHER)
        one.clear()
        two.clear()
        self.assertEqual([copies(ONE, OTHER, PATH[0]), switches(ONE, OTHER)], [["x", "y"], PATH])

    def test_drawn_pairs(self):
        many = {"switches": 0, "two": 0, "copies": 0}
        for one, other in pairs(400):
            ways, changed = all_ways(one, other), all_changes(one, other)
            found = switches(one, other)
            for way in ways:
                self.assertEqual([place for place in way if place in found], found)
            common = set.intersection(*map(set, ways)) if ways else set()
            self.assertEqual((set(found), len(found)), (common, len(common)))
            two = two_ways(one, other)
            self.assertEqual(two is None, not ways or len(found) > 0)
            if two is not None:
                self.check_two(one, other, two)
            ahead = None
            for place in found:
                many["switches"] += 1
                taken = copies(one, other, place)
                self.assertEqual(taken, copied(one, other, changed, place))
                # Those at a later switch are some of those at an earlier one.
                self.assertTrue(ahead is None or set(taken) <= set(ahead))
                many["copies"] += len(taken)
                ahead = taken
            many["two"] += two is not None
        self.assertGreater(min(many.values()), 30)


def copied(one, other, changed, switch):
    """The copies at a switch, by the definition."""
    if switch[0] == "mark":
        return []
    ends = {place[1] for place in changed if place != switch and place[0] != "root"}
    near = reached_from(other, [other[switch]]) & reached_from(one, [one[("root", r)] for r in one.roots()])
    return sorted(x for x in near if reached_from(other, [x], switch) & ends)
