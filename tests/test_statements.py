"""[21] statements."""
import copy
import unittest

from askless.statements import bodies, count, is_statement, names_in
from tests.values import nested, odd_values

PLAIN = [
    ("new", "x"), ("mark", "x", 0), ("mark", "x", 3), ("point", "x", "f", "y"), ("point", "x", "f", ""),
    ("root", "r", "x"), ("root", "r", ""), ("ask", "q"), ("await", "q"), ("quiet",), ("free", "x"), ("later", "x"),
    ("lock", "l"), ("unlock", "l"), ("new", "abcdefgh"),
]
NONE = [
    ("new",), ("new", ""), ("new", "X"), ("new", "x", "y"), ("new", 1), ("mark", "x"), ("mark", "x", 4),
    ("mark", "x", -1), ("mark", "x", True), ("mark", "x", False), ("mark", "", 1), ("point", "x", "f"),
    ("point", "", "f", "x"), ("point", "x", "", "x"), ("point", "x", "f", "?"), ("point", "x", "f", None),
    ("root", "", "x"), ("root", "r", "?"), ("root", "r"), ("ask",), ("ask", ""), ("await", ""), ("quiet", "q"),
    ("free", ""), ("later", ""), ("lock", ""), ("unlock", ""), ("lock",), ("wait", "q"), ("NEW", "x"), (b"new", "x"),
    ["new", "x"], "new", ("copy", "x", "y"), ("either",), ("either", []), ("either", ()), ("either", [[]], []),
    ("either", ["x"]), ("either", [("new", "x")]), ("either", [[("new", "x")], "x"]), ("either", {}), ("either", {"x": []}),
    ("either", {(): 1}), ("either", {()}), ("either", 1), ("either", None),
    ("either", [[["new", "x"]]]), ("loop",), ("loop", "x"), ("loop", None), ("loop", ("new", "x")), ("loop", [], []),
    ("loop", [("loop", [("mark", "x", True)])]), ("either", [[], [("new", "x"), ("new", "")]]), ("loop", {}),
]


class IsStatementTest(unittest.TestCase):
    def test_statements(self):
        for thing in PLAIN:
            self.assertIs(is_statement(thing), True, thing)
        self.assertIs(is_statement(("loop", [])), True)
        self.assertIs(is_statement(("loop", PLAIN)), True)
        self.assertIs(is_statement(("loop", tuple(PLAIN))), True)
        for kind in [list, tuple]:
            self.assertIs(is_statement(("either", kind([kind([]), PLAIN, kind([("loop", kind([]))])]))), True)

    def test_no_statements(self):
        for thing in NONE + odd_values():
            self.assertIs(is_statement(thing), False)
            self.assertIs(is_statement(("loop", [thing])), False)
            self.assertIs(is_statement(("either", [[], [("quiet",), thing]])), False)

    def test_deep_and_long(self):
        deep = ("quiet",)
        for level in range(29):
            deep = ("loop", [deep])
        self.assertIs(is_statement(deep), True)
        self.assertEqual(count(deep), 30)
        self.assertIs(is_statement(("loop", [nested(58)])), False)
        many = ("either", [[("quiet",)] * 250000, [("new", "x")] * 250000])
        self.assertIs(is_statement(many), True)
        self.assertEqual(count(many), 500001)
        self.assertEqual(names_in(many), ["x"])
        self.assertIs(is_statement(("loop", [("quiet",)] * 499999 + [("quiet", 1)])), False)


class PartsTest(unittest.TestCase):
    def test_bodies(self):
        for statement in PLAIN:
            self.assertEqual(bodies(statement), [])
        first, second = ("loop", [("quiet",)]), ("new", "x")
        for kind in [list, tuple]:
            found = bodies(("either", kind([kind([first, second]), kind([])])))
            self.assertEqual(found, [[first, second], []])
            self.assertIs(found[0][0], first)
            self.assertIs(found[0][1], second)
            self.assertEqual(bodies(("loop", kind([second]))), [[second]])

    def test_bodies_are_new_lists(self):
        shared = [("quiet",)]
        statement = ("either", [shared, shared])
        found = bodies(statement)
        self.assertIsNot(found[0], found[1])
        found[0].append(("new", "x"))
        found.append([])
        self.assertEqual(bodies(statement), [[("quiet",)], [("quiet",)]])
        self.assertEqual(statement, ("either", [[("quiet",)], [("quiet",)]]))

    def test_names_in(self):
        expected = [["x"], ["x"], ["x"], ["x", "y"], ["x"], ["x"], [], [], [], [], ["x"], ["x"], [], [], ["abcdefgh"]]
        self.assertEqual([names_in(statement) for statement in PLAIN], expected)
        self.assertEqual(names_in(("point", "z", "f", "a")), ["a", "z"])
        self.assertEqual(names_in(("point", "z", "f", "z")), ["z"])
        inner = ("either", ([("root", "r", "c"), ("free", "b")], (("loop", [("new", "a"), ("lock", "l")]), ("new", "b"))))
        self.assertEqual(names_in(inner), ["a", "b", "c"])
        self.assertEqual(names_in(("loop", ())), [])
        self.assertEqual(names_in(("loop", [("new", cell) for cell in "qpsrutwvyxz"])), list("pqrstuvwxyz"))

    def test_count(self):
        self.assertEqual([count(statement) for statement in PLAIN], [1] * len(PLAIN))
        self.assertEqual(count(("loop", [])), 1)
        self.assertEqual(count(("either", [[], [("quiet",), ("loop", (("quiet",),))]])), 4)

    def test_arguments_stay(self):
        statement = ("either", [[("loop", [("new", "y"), ("new", "x")])], []])
        before = copy.deepcopy(statement)
        for ask in [is_statement, bodies, names_in, count]:
            first = ask(statement)
            self.assertEqual(ask(statement), first)
        self.assertEqual(statement, before)
