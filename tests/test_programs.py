"""[22] programs."""
import copy
import unittest

from askless.errors import BadStatement, NoWriter, Wrong
from askless.programs import Program
from tests.test_statements import NONE
from tests.values import nested, odd_values

BODY = [
    ("new", "x"), ("either", [[("ask", "q"), ("loop", [("mark", "x", 1)])], []]), ("loop", []),
    ("lock", "l"), ("unlock", "l"), ("await", "p"), ("point", "x", "f", "y"), ("root", "r", ""),
]


def made():
    return Program(["y", "x"], ["s", "r"], [BODY, [("quiet",)]], fields=["g", "f"])


class ProgramTest(unittest.TestCase):
    def test_names_are_told_ascending(self):
        program = made()
        self.assertEqual(program.cells(), ["x", "y"])
        self.assertEqual(program.roots(), ["r", "s"])
        self.assertEqual(program.fields(), ["f", "g"])
        self.assertEqual(program.quiets(), ["p", "q"])
        self.assertEqual(program.locks(), ["l"])
        self.assertEqual(len(program), 2)
        least = Program(("x",), ("x",), ((),))
        self.assertEqual((least.fields(), least.quiets(), least.locks(), len(least)), ([], [], [], 1))
        self.assertEqual(Program(["x"], ["r"], [[]] * 3).body(2), [])

    def test_quiets_and_locks_of_all_words_and_writers(self):
        program = Program(["x"], ["r"], [[("await", "c"), ("unlock", "m")], [("loop", [("ask", "b"), ("lock", "k")])],
                                         [("either", [[], [("ask", "a"), ("ask", "c"), ("lock", "m")]])]])
        self.assertEqual(program.quiets(), ["a", "b", "c"])
        self.assertEqual(program.locks(), ["k", "m"])

    def test_bodies_are_lists(self):
        tuples = tuple(("either", ((("loop", ()),), ())) if part == 0 else part for part in [0, ("quiet",)])
        program = Program(["x"], ["r"], (tuples, []))
        self.assertEqual(program.body(0), [("either", [[("loop", [])], []]), ("quiet",)])
        self.assertEqual(program.body(1), [])
        self.assertEqual(made().body(0), BODY)

    def test_what_is_returned_belongs_to_the_caller(self):
        program = made()
        for ask in [program.cells, program.roots, program.fields, program.quiets, program.locks]:
            before = list(ask())
            ask().append("zz")
            self.assertEqual(ask(), before)
        found = program.body(0)
        found[1][1][0].append("no")
        found[1][1][0][1][1].clear()
        found[2][1].append("no")
        found.clear()
        self.assertEqual(program.body(0), BODY)
        self.assertEqual(program, made())

    def test_no_list_stands_twice(self):
        shared = [("loop", [("quiet",)])]
        either = ("either", [shared, shared])
        found = Program(["x"], ["r"], [[either, either]]).body(0)
        found[0][1][0][0][1].append("no")
        found[0][1][1].append("no")
        self.assertEqual(found[1], ("either", [[("loop", [("quiet",)])], [("loop", [("quiet",)])]]))
        self.assertEqual(found[0][1], [[("loop", [("quiet",), "no"])], [("loop", [("quiet",)]), "no"]])

    def test_arguments_stay_and_are_copied(self):
        cells, roots, fields, inner = ["x", "y"], ["r"], ["f"], [("quiet",)]
        writers = [[("loop", inner), ("either", [inner])]]
        before = copy.deepcopy((cells, roots, writers, fields))
        program = Program(cells, roots, writers, fields=fields)
        self.assertEqual((cells, roots, writers, fields), before)
        other = Program(cells, roots, writers, fields=fields)
        inner.append("no")
        writers[0].append("no")
        writers.append([])
        for names in [cells, roots, fields]:
            names.append("zz")
        self.assertEqual(program, other)
        self.assertEqual(program.body(0), before[2][0])
        self.assertEqual((program.cells(), program.roots(), program.fields()), (before[0], before[1], before[3]))

    def test_equal(self):
        self.assertIs(made() == made(), True)
        self.assertIs(made() != made(), False)
        self.assertEqual(made(), Program(("x", "y"), ("r", "s"), (tuple(BODY), (("quiet",),)), fields=("f", "g")))
        base = ((["x"], ["r"], [[("quiet",)]]), {"fields": ["f"]})
        others = [
            ((["x", "y"], ["r"], [[("quiet",)]]), {"fields": ["f"]}), ((["y"], ["r"], [[("quiet",)]]), {"fields": ["f"]}),
            ((["x"], ["s"], [[("quiet",)]]), {"fields": ["f"]}), ((["x"], ["r"], [[("quiet",)]]), {"fields": []}),
            ((["x"], ["r"], [[("quiet",)], []]), {"fields": ["f"]}), ((["x"], ["r"], [[]]), {"fields": ["f"]}),
            ((["x"], ["r"], [[("loop", [("quiet",)])]]), {"fields": ["f"]}),
        ]
        for args, more in others:
            self.assertIs(Program(*base[0], **base[1]) == Program(*args, **more), False)
            self.assertIs(Program(*base[0], **base[1]) != Program(*args, **more), True)
        for thing in odd_values():
            self.assertIs(made() == thing, False)

    def test_is_straight(self):
        def straight(*writers):
            return Program(["x"], ["r"], list(writers)).is_straight
        self.assertIs(straight([]), True)
        plain = [("new", "x"), ("mark", "x", 1), ("root", "r", "x"), ("ask", "q"), ("await", "q"), ("quiet",), ("free", "x")]
        self.assertIs(straight(plain), True)
        self.assertIs(straight(plain, []), False)
        for crooked in [("either", [[]]), ("loop", []), ("lock", "l"), ("unlock", "l"), ("later", "x")]:
            self.assertIs(straight(plain + [crooked]), False)


class WrongProgramTest(unittest.TestCase):
    def refused(self, *args, **more):
        with self.assertRaises(Wrong) as caught:
            Program(*args, **more)
        return caught.exception.place

    def test_wrong_arguments(self):
        names = [thing for thing in odd_values() if thing not in (["quiet"], ("quiet", "q"))] + [["x", "x"], ["X"], ["x", ""], "x", {"x": 1}, {"x"}, [["x"]], [True], ["x", 1]]
        for thing in names:
            self.assertEqual(self.refused(thing, ["r"], [[]]), 0)
            self.assertEqual(self.refused(["x"], thing, [[]]), 1)
            if thing not in ([], ()):
                self.assertEqual(self.refused(["x"], ["r"], [[]], fields=thing), 3)
        for thing in odd_values() + [[[]] * 4, [[], "x"], ["x"], [{}], {}, [None], [[], ("quiet",), {}]]:
            if not (isinstance(thing, (list, tuple)) and 1 <= len(thing) <= 3
                    and all(isinstance(body, (list, tuple)) for body in thing)):
                self.assertEqual(self.refused(["x"], ["r"], thing), 2)
        self.assertEqual(self.refused(list("abcdefg"), ["r"], [[]]), 0)
        self.assertEqual(self.refused([], ["r"], [[]]), 0)
        self.assertEqual(self.refused(["x"], [], [[]]), 1)
        self.assertEqual(self.refused(["x"], list("rst"), [[]]), 1)
        self.assertEqual(self.refused(["x"], ["r"], []), 2)
        self.assertEqual(self.refused(["x"], ["r"], [[]], fields=list("fgh")), 3)
        self.assertEqual(len(Program(list("abcdef"), ["r", "s"], [[]] * 3, fields=["f", "g"])), 3)

    def test_first_wrong_argument_comes_first(self):
        self.assertEqual(self.refused(0, 0, 0, fields=0), 0)
        self.assertEqual(self.refused(["x"], 0, 0, fields=0), 1)
        self.assertEqual(self.refused(["x"], ["r"], 0, fields=0), 2)
        self.assertEqual(self.refused(["x"], ["r"], [["bad"]], fields=0), 3)

    def bad(self, writers, fields=("f",)):
        with self.assertRaises(BadStatement) as caught:
            Program(["x", "y"], ["r"], writers, fields=fields)
        return caught.exception.writer, caught.exception.address

    def test_bad_statements(self):
        for thing in odd_values():
            self.assertEqual(self.bad([[], [("quiet",), thing]]), (1, (1,)))
            self.assertEqual(self.bad([[("either", [[], [("quiet",), thing]])]]), (0, (0, 1, 1)))
        for thing in NONE:
            with self.assertRaises(BadStatement):
                Program(["x", "y"], ["r"], [[thing]], fields=["f"])

    def test_names_that_there_are_not(self):
        for thing in [("new", "z"), ("mark", "z", 0), ("point", "z", "f", "x"), ("point", "x", "f", "z"),
                      ("point", "x", "g", ""), ("root", "x", ""), ("root", "r", "r"), ("free", "r"), ("later", "f")]:
            self.assertEqual(self.bad([[("quiet",), thing]]), (0, (1,)))
        self.assertEqual(self.bad([[("point", "x", "f", "")]], fields=()), (0, (0,)))
        Program(["x"], ["r"], [[("ask", "any"), ("await", "x"), ("lock", "r"), ("unlock", "zz")]])

    def test_the_least_place_is_told(self):
        self.assertEqual(self.bad([[("quiet",)], [("loop", ["no"]), "no"]]), (1, (0, 0, 0)))
        self.assertEqual(self.bad([[("loop", [("loop", [("quiet",), "no"])]), "no"], ["no"]]), (0, (0, 0, 0, 0, 1)))
        self.assertEqual(self.bad([[("either", [["no"], "no"])]]), (0, (0,)))
        self.assertEqual(self.bad([[("either", [[("quiet",)], ["no"]])], ["no"]]), (0, (0, 1, 0)))
        self.assertEqual(self.bad([[("loop", ("new", "x"))]]), (0, (0, 0, 0)))
        self.assertEqual(self.bad([[("loop", [("either", [])])]]), (0, (0, 0, 0)))

    def test_deep_and_long(self):
        self.assertEqual(self.bad([nested(59)]), (0, (0,)))
        self.assertEqual(self.bad([[("loop", nested(57))]]), (0, (0, 0, 0)))
        deep = []
        for level in range(28):
            deep = [("loop", deep)]
        self.assertEqual(Program(["x"], ["r"], [deep]).body(0), deep)
        self.assertEqual(self.bad([[("quiet",)] * 400000 + [("quiet", 1)]]), (0, (400000,)))
        self.assertEqual(len(Program(["x"], ["r"], [[("quiet",)] * 200000]).body(0)), 200000)


class WithBodyTest(unittest.TestCase):
    def test_with_body(self):
        program = made()
        other = program.with_body(1, [("loop", (("new", "x"),))])
        self.assertEqual(other, Program(["x", "y"], ["r", "s"], [BODY, [("loop", [("new", "x")])]], fields=["f", "g"]))
        self.assertEqual(program, made())
        self.assertEqual(program.with_body(0, BODY), program)
        self.assertEqual(program.with_body(0, ()).body(0), [])

    def test_body_is_copied(self):
        body = [("loop", [])]
        program = made().with_body(1, body)
        body[0][1].append(("quiet",))
        body.append(("quiet",))
        self.assertEqual(program.body(1), [("loop", [])])

    def test_no_writer(self):
        program = made()
        for writer in [-1, 2, 10 ** 39, -(10 ** 39), True, False, None, "0", (0,), [0]]:
            for call in [lambda: program.body(writer), lambda: program.with_body(writer, [])]:
                with self.assertRaises(NoWriter) as caught:
                    call()
                self.assertIs(caught.exception.writer, writer)

    def test_no_writer_comes_ahead_of_a_bad_statement(self):
        with self.assertRaises(NoWriter):
            made().with_body(2, ["no"])
        with self.assertRaises(BadStatement) as caught:
            made().with_body(1, [("quiet",), ("loop", [("new", "z")])])
        self.assertEqual((caught.exception.writer, caught.exception.address), (1, (1, 0, 0)))
