"""[84] papers."""
import unittest

from askless.graphs import Graph
from askless.papers import is_switch_paper, switch_paper
from askless.switches import copies, switches
from tests.shown import all_changes, all_ways, pairs, places_below, reached_from
from tests.test_changes import ONE, OTHER, PATH
from tests.values import odd_values

TO = ("field", "x", "to")
DOWN = ("field", "y", "to")


def replaced(parts, at, part):
    return parts[:at] + (part,) + parts[at + 1:]


def is_paper(one, other, thing):
    """Whether a tuple with lists at the right places is a paper, by the definitions and all ways."""
    changed, ways = all_changes(one, other), all_ways(one, other)
    found = set.intersection(*map(set, ways)) if ways else set()
    if not changed or not found:
        if not changed:
            return thing == ("idle",)
        apart = thing[0] == "two" and len(thing) == 3 and not set(thing[1]) & set(thing[2])
        return apart and tuple(thing[1]) in ways and tuple(thing[2]) in ways
    if thing[0] != "one" or len(thing) != 5:
        return False
    switch = [place for place in ways[0] if place in found][-1]
    word, place, apart, reasons, tails = thing
    direct = reached_from(one, [one[("root", r)] for r in one.roots() if ("root", r) != switch], switch)
    if place != switch or apart != sorted(direct):
        return False
    if [reason[0] for reason in reasons] != copies(one, other, switch):
        return False
    ends = {change[1] for change in changed if change[0] != "root" and change != switch}
    for cell, toward, onward in reasons:
        if not toward or toward[0] != switch or not follows(other, toward) or other[toward[-1]] != cell:
            return False
        if cell in ends:
            if onward != []:
                return False
        elif not onward or onward[0][:2] != ("field", cell) or not follows(other, onward) or switch in onward or other[onward[-1]] not in ends:
            return False
    if switch in changed:
        return tails == ()
    if len(tails) != 2 or len(set(tails[0] + tails[1])) < len(tails[0] + tails[1]):
        return False
    return all(tail and tail[0] in places_below(one, one[switch]) and tail[-1] in changed and chained(one, tail) for tail in tails)


def chained(graph, places):
    return all(place in places_below(graph, graph[ahead]) for ahead, place in zip(places, places[1:]))


def follows(graph, places):
    return chained(graph, places) and all(place in graph for place in places) and all(place[0] == "field" for place in places[1:])


def bent(one, paper):
    """Papers with something put otherwise in them."""
    word, rest = paper[0], paper[1:]
    yield paper[:-1]
    yield paper + ([],)
    yield ("idle",)
    yield ("two", PATH, PATH)
    if word == "two":
        yield ("two", rest[1], rest[0])
        yield ("two", rest[0], rest[0])
        for place in one.places():
            yield ("two", rest[0] + [place], rest[1])
            yield ("two", rest[0], [place])
    if word == "one":
        for place in one.places():
            yield replaced(paper, 1, place)
            yield replaced(paper, 4, (paper[4] or ([], []))[:1] + ([place],))
        yield replaced(paper, 2, paper[2][:-1])
        yield replaced(paper, 2, paper[2] + ["q"])
        yield replaced(paper, 3, paper[3][:-1])
        yield replaced(paper, 3, paper[3][::-1])
        yield replaced(paper, 3, paper[3] + paper[3][:1])
        yield replaced(paper, 4, paper[4][::-1])
        yield replaced(paper, 4, ())
        for tails in [[tail + [place] for tail in paper[4]] for place in one.places()]:
            yield replaced(paper, 4, (tuple(tails[:1]) + paper[4][1:]))
        for at, reason in enumerate(paper[3]):
            for k in (1, 2):
                for place in one.places():
                    for longer in (reason[k] + [place], [place] + reason[k], reason[k][:-1] + [place]):
                        yield replaced(paper, 3, paper[3][:at] + [replaced(reason, k, longer)] + paper[3][at + 1:])
                yield replaced(paper, 3, paper[3][:at] + [replaced(reason, k, reason[k][:-1])] + paper[3][at + 1:])


class PaperTest(unittest.TestCase):
    def test_papers(self):
        paper = ("one", TO, ["x"], [("y", [TO], [])], ([("field", "y", "to")], [("mark", "y")]))
        found = switch_paper(ONE, OTHER)
        self.assertEqual(found[:4], paper[:4])
        self.assertEqual(sorted(found[4]), sorted(paper[4]))
        self.assertEqual(switch_paper(ONE, ONE), ("idle",))
        for thing in [found, paper, replaced(paper, 4, paper[4][::-1])]:
            self.assertIs(is_switch_paper(ONE, OTHER, thing), True)

    def test_switches_that_are_changes(self):
        one, other = Graph([], {"r": "x"}, {"x": (0, ())}), Graph([], {"r": "x"}, {"x": (1, ())})
        self.assertEqual(switch_paper(one, other), ("one", ("mark", "x"), ["x"], [], ()))
        empty = Graph([], {"r": ""}, {})
        self.assertEqual(switch_paper(one, empty), ("one", ("root", "r"), [], [], ()))
        both = Graph([], {"r": "", "s": ""}, {}), Graph([], {"r": "x", "s": "x"}, {"x": (0, ())})
        self.assertEqual(sorted(switch_paper(*both)[1:]), [[("root", "r")], [("root", "s")]])

    def test_toward_and_onward(self):
        """x is copied since y changes, to which other leads from it by a field, perhaps on a way round."""
        cells = {"x": (0, ("y", "x")), "y": (0, ("", ""))}
        one = Graph(["f", "g"], {"r": "x"}, cells)
        other = Graph(["f", "g"], {"r": "x"}, dict(cells, y=(1, ("x", ""))))
        other_top = other.copied()
        self.assertEqual(switches(one, other), [("root", "r"), ("field", "x", "f")])
        self.assertEqual(copies(one, other, ("root", "r")), ["x", "y"])
        paper = switch_paper(one, other)
        self.assertEqual(paper[:3] + (paper[3],), ("one", ("field", "x", "f"), ["x"], [("y", [("field", "x", "f")], [])]))
        # Places may stand again in toward, not in tails.
        again = [("field", "x", "f"), ("field", "y", "f"), ("field", "x", "g"), ("field", "x", "g"), ("field", "x", "f")]
        self.assertIs(is_switch_paper(one, other, replaced(paper, 3, [("y", again, [])])), True)
        self.assertIs(is_switch_paper(one, other, replaced(paper, 3, [("y", again[:-1], [])])), False)
        self.assertEqual(other, other_top)
        # Onward never goes over the switch.
        near = {"a": (0, ("b", "")), "b": (0, ("c", "d")), "c": (0, ("", "a")), "d": (0, ("", ""))}
        ahead = Graph(["f", "g"], {"r": "a"}, near)
        behind = Graph(["f", "g"], {"r": "a"}, dict(near, c=(1, ("", "a")), d=(1, ("", ""))))
        paper = switch_paper(ahead, behind)
        self.assertEqual((paper[1], [reason[0] for reason in paper[3]]), (("field", "a", "f"), ["b", "c", "d"]))
        for onward, fits in [([("field", "b", "f")], True), ([("field", "b", "g")], True), ([("field", "b", "f"), ("field", "c", "g")], False),
                             ([("field", "b", "f"), ("field", "c", "g"), ("field", "a", "f"), ("field", "b", "g")], False), ([], False)]:
            thing = replaced(paper, 3, [("b", [("field", "a", "f")], onward)] + paper[3][1:])
            self.assertIs(is_switch_paper(ahead, behind, thing), fits, onward)
        lead = Graph(["f", "g"], {"r": "a"}, {"a": (0, ("b", "")), "b": (0, ("c", "")), "c": (0, ("", ""))})
        moved = Graph(["f", "g"], {"r": "a"}, {"a": (0, ("d", "")), "b": (0, ("c", "a")), "c": (1, ("", "")), "d": (0, ("b", ""))})
        paper = switch_paper(lead, moved)
        self.assertEqual(paper[:3], ("one", ("field", "a", "f"), ["a"]))
        self.assertEqual(paper[3][0], ("b", [("field", "a", "f"), ("field", "d", "f")], []))

    def test_tails(self):
        """They begin with a place of the cell to which the switch leads, not with a root that is called like it."""
        one = Graph(["f"], {"x": "a"}, {"a": (0, ("x",)), "x": (0, ("b",)), "b": (0, ("",))})
        other = Graph(["f"], {"x": "a"}, {"a": (0, ("x",)), "x": (1, ("b",)), "b": (1, ("",))})
        paper, switch = switch_paper(one, other), ("field", "a", "f")
        near, far = [("mark", "x")], [("field", "x", "f"), ("mark", "b")]
        self.assertEqual((paper[1], sorted(paper[4])), (switch, [far, near]))
        for tails, fits in [((near, far), True), ((far, near), True), ((near, far[1:]), False), (([switch] + near, far), False),
                            ((near, [("root", "x"), switch] + far), False), ((near, [switch] + far), False), ((near, far[:1]), False),
                            ((near, []), False), ((near, near), False), ((near,), False), ((near, far, far), False), ((far, far[:1]), False)]:
            self.assertIs(is_switch_paper(one, other, replaced(paper, 4, tails)), fits, tails)
        # They may go over the switch.
        ring = Graph(["f", "g"], {"r": "a"}, {"a": (0, ("x", "")), "x": (0, ("a", ""))})
        turned = Graph(["f", "g"], {"r": "a"}, {"a": (0, ("x", "")), "x": (1, ("a", "x"))})
        paper = switch_paper(ring, turned)
        self.assertEqual(paper[1], switch)
        over = [("field", "x", "f"), switch, ("mark", "x")]
        for tails, fits in [((over, [("field", "x", "g")]), True), (([("field", "x", "g")], over), True), ((over, [("mark", "x")]), False)]:
            self.assertIs(is_switch_paper(ring, turned, replaced(paper, 4, tails)), fits, tails)

    def test_no_papers(self):
        paper = switch_paper(ONE, OTHER)
        word, switch, apart, reasons, tails = paper
        others = [list(paper), (word, list(switch), apart, reasons, tails), (word, switch, tuple(apart), reasons, tails),
                  (word, switch, apart, tuple(reasons), tails), (word, switch, apart, reasons, list(tails)), (word, switch, [], reasons, tails),
                  (word, switch, apart, [list(reasons[0])], tails), (word, switch, apart, [("y", (TO,), [])], tails),
                  (word, switch, apart, [("y", [TO], ())], tails), (word, switch, apart, [("y", [TO], None)], tails),
                  (word, switch, apart, [("y", [list(TO)], [])], tails), (word, switch, apart, reasons, tuple(map(tuple, tails))),
                  (word, switch, apart, reasons, ()), (word, switch, apart, reasons, tails[:1]), (word, switch, apart, reasons, (tails[0], tails[0])),
                  ("two", PATH, PATH), ("idle",), ("two", switch, apart, reasons, tails), (word,), (), (1,), (word, PATH[0], [], reasons, tails),
                  (word, switch, apart, [("y", [TO])], tails), (word, switch, apart, [("y", [TO], [], [])], tails), (word, switch, apart, reasons * 2, tails),
                  (word, switch, apart, [("x", [PATH[0]], [])] + reasons, tails)]
        for thing in others:
            self.assertIs(is_switch_paper(ONE, OTHER, thing), False, thing)
        for graphs in [(ONE, OTHER), (ONE, ONE), (Graph([], {"r": "", "s": ""}, {}), Graph([], {"r": "x", "s": "x"}, {"x": (0, ())}))]:
            found = switch_paper(*graphs)
            self.assertIs(is_switch_paper(*graphs, found), True)
            for thing in odd_values():
                self.assertIs(is_switch_paper(*graphs, thing), False)
                for at in range(len(found)):
                    same = thing == found[at] and type(thing) is type(found[at])
                    self.assertIs(is_switch_paper(*graphs, replaced(found, at, thing)), same)
        for thing in odd_values():
            for at in range(3):
                self.assertIs(is_switch_paper(ONE, OTHER, (word, switch, apart, [replaced(reasons[0], at, thing)], tails)), at == 2 and thing == [])
            self.assertIs(is_switch_paper(ONE, OTHER, (word, switch, apart, reasons, (tails[0], thing))), False)
            self.assertIs(is_switch_paper(ONE, OTHER, (word, switch, apart, reasons, (tails[0], [thing]))), False)
            self.assertIs(is_switch_paper(ONE, OTHER, (word, switch, apart, [("y", [TO, thing], [])], tails)), False)

    def test_drawn_pairs(self):
        words, bad = {"idle": 0, "two": 0, "one": 0}, 0
        for one, other in pairs(250):
            paper = switch_paper(one, other)
            words[paper[0]] += 1
            self.assertIs(is_paper(one, other, paper), True)
            self.assertIs(is_switch_paper(one, other, paper), True)
            self.assertEqual(paper[0] == "one", len(switches(one, other)) > 0)
            for thing in bent(one, paper) if len(all_ways(one, other)) < 200 else []:
                expected = is_paper(one, other, thing)
                self.assertIs(is_switch_paper(one, other, thing), expected, thing)
                bad += not expected
        self.assertGreater(min(words.values()), 15)
        self.assertGreater(bad, 2000)

    def test_results_are_new(self):
        one, two = switch_paper(ONE, OTHER), switch_paper(ONE, OTHER)
        one[2].clear()
        one[3][0][1].clear()
        one[4][0].clear()
        self.assertIs(is_switch_paper(ONE, OTHER, two), True)
        self.assertEqual(switch_paper(ONE, OTHER), two)
        lists = [two[2], two[3], two[3][0][1], two[3][0][2], *two[4]]
        self.assertEqual(len({id(part) for part in lists}), len(lists))
