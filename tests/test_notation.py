"""[101] notation."""
import random
import unittest

from askless.errors import NoText
from askless.notation import read_program, read_run, read_statement, show_program, show_run, show_statement
from askless.programs import Program
from askless.statements import is_statement
from tests.drawn import listed, mild, visible
from tests.model import random_parts
from tests.values import nested, odd_values
from tests.worded import drawn_statement, drawn_step, edits, is_program_text, is_run_text, is_statement_text

BIG = 10 ** 39
LETTERS = " \nar-0149.@AZ~\t\r"
STATEMENTS = {
    "new x": ("new", "x"), "mark x 2": ("mark", "x", 2), "point x f y": ("point", "x", "f", "y"), "point x f -": ("point", "x", "f", ""),
    "root r -": ("root", "r", ""), "root r abcdefgh": ("root", "r", "abcdefgh"), "ask q": ("ask", "q"), "await q": ("await", "q"), "quiet": ("quiet",),
    "free x": ("free", "x"), "later x": ("later", "x"), "lock l": ("lock", "l"), "unlock l": ("unlock", "l"), "loop": ("loop", []),
    "either": ("either", [[]]), "either\nor\nor": ("either", [[], [], []]), "either\n  new x\nor\n  quiet\n  quiet": ("either", [[("new", "x")], [("quiet",)] * 2]),
    "loop\n  loop\n    new or\n  loop": ("loop", [("loop", [("new", "or")]), ("loop", [])]),
    "either\n  either\n  or\nor\n  either\n    quiet\n  or": ("either", [[("either", [[], []])], [("either", [[("quiet",)], []])]]),
    "loop\n  either\n    loop\n      free x\n  or\n  ask either": ("loop", [("either", [[("loop", [("free", "x")])], []]), ("ask", "either")]),
}
PROGRAM = Program(["y", "x"], ["r"], [[("new", "x"), ("loop", [("root", "r", "x"), ("either", [[], [("root", "r", "")]])])], []], fields=["g", "f"])
TEXT = "cells x y\nroots r\nfields f g\nwriter\n  new x\n  loop\n    root r x\n    either\n    or\n      root r -\nwriter\n"
RUN = [("writer", 0), ("writer", 1, 0), ("begin", "x"), ("end", "x"), ("enter",), ("root", 0, "r"), ("field", 0, 1, "f"), ("mark", 12, 0), ("leave", 0)]
RUN_TEXT = "writer 0\nwriter 1 0\nbegin x\nend x\nenter\nroot 0 r\nfield 0 1 f\nmark 12 0\nleave 0\n"


def deep(levels, inner=()):
    """Loops in one another, so many."""
    statement = ("loop", list(inner))
    for level in range(levels - 1):
        statement = ("loop", [statement])
    return statement


class NotationTest(unittest.TestCase):
    def no_text(self, read, text):
        with self.assertRaises(NoText) as caught:
            read(text)
        self.assertEqual(vars(caught.exception), {})

    def test_statements(self):
        for text, statement in STATEMENTS.items():
            self.assertEqual(show_statement(statement), text)
            self.assertEqual(read_statement(text), statement)
            self.assertIs(is_statement_text(text), True)
        self.assertEqual(show_statement(("either", ((("loop", (("quiet",),)),), ()))), "either\n  loop\n    quiet\nor")
        self.assertEqual(len(set(STATEMENTS)), len(STATEMENTS))

    def test_programs(self):
        self.assertEqual(show_program(PROGRAM), TEXT)
        self.assertEqual(read_program(TEXT), PROGRAM)
        empty = Program(["x"], ["s", "r"], [[], [("quiet",)], []])
        self.assertEqual(show_program(empty), "cells x\nroots r s\nfields\nwriter\nwriter\n  quiet\nwriter\n")
        self.assertEqual(read_program(show_program(empty)), empty)

    def test_runs(self):
        self.assertEqual([show_run(RUN), show_run(tuple(RUN)), read_run(RUN_TEXT)], [RUN_TEXT, RUN_TEXT, RUN])
        self.assertEqual([show_run([]), show_run(()), read_run("")], ["", "", []])
        for number in [0, 9, 10, BIG, 10 * BIG - 1]:
            run = [("field", number, number, "f"), ("writer", number, number)]
            self.assertEqual(read_run(f"field {number} {number} f\nwriter {number} {number}\n"), run)
            self.assertEqual(read_run(show_run(run)), run)
        self.assertEqual(read_run("enter\n" * 200000), [("enter",)] * 200000)

    def test_no_statements(self):
        for text in ["", " ", "new", "new x ", " new x", "new  x", "new x\n", "\nnew x", "new X", "new xxxxxxxxx", "new 1", "new x y", "mark x 4", "mark x 02",
                     "mark x -1", "mark x +1", "mark x", "mark x y", "mark 1 x", "root r", "root r  ", "root - x", "point x f", "quiet q", "New x", "or", "loop\nnew x",
                     "loop\n new x", "loop\n   new x", "loop\n    new x", "loop\n  new x\n", "loop\nloop", "loop\nor", "either\nnew x", "either\n  new x\n  or",
                     "either\nor\n  or", "either x", "loop x", "either ", "or\neither", "loop\n  new x\nor", "new x\nnew y", "loop\n\n  new x", "loop\n  ",
                     "copy x y", "writer 0", "mark x \u0661", "new \u00e9", "new x\r", "new\tx", "root r \u2010", "mark x 1_0", "mark x 0x1", "await", "cells x",
                     "either\n  new x\nor\nor x", "loop\n  or", "loop\n  or\n  new x", "new x\x00", "mark x " + "1" * 5000, "mark x " + "0" * 100000]:
            self.no_text(read_statement, text)
            self.assertIs(is_statement_text(text), False, text)

    def test_no_programs(self):
        lines = TEXT.split("\n")
        bad = [TEXT[:-1], TEXT + "\n", "\n" + TEXT, TEXT + "writer\nwriter\n", TEXT.replace("cells x y", "cells y x"), TEXT.replace("fields f g", "fields f f"),
               TEXT.replace("fields f g", "fields f g h"), TEXT.replace("fields f g", "fields "), TEXT.replace("fields f g\n", ""),
               TEXT.replace("cells x y", "cells"), TEXT.replace("roots r", "roots"), TEXT.replace("roots r", "roots q r s"), TEXT.replace("roots r", "roots q"),
               TEXT.replace("cells x y", "cells a b c d e f x"), TEXT.replace("new x", "new z"), TEXT.replace("  new x", "new x"),
               TEXT.replace("  new x", "    new x"), TEXT.replace("  new x", "  or"), TEXT.replace("writer\n", "writer 0\n"), TEXT.replace("writer", "Writer"),
               "\n".join(lines[:3]) + "\n", "", "\n", "cells x\n", "cells x\nroots r\nfields\n", "cells x\nroots r\nfields\nquiet\n", TEXT[::-1], TEXT * 2,
               "roots r\ncells x y\nfields f g\nwriter\n", "cells x \nroots r\nfields\nwriter\n", "cells  x\nroots r\nfields\nwriter\n",
               " cells x\nroots r\nfields\nwriter\n", "cells x\nroots r\nfields\n  writer\n", "cells xxxxxxxxx\nroots r\nfields\nwriter\n",
               "cells x\nroots r\nfields\nwriter\n  quiet\n\n", "cells -\nroots r\nfields\nwriter\n", "cells 1\nroots r\nfields\nwriter\n"]
        for text in bad:
            self.no_text(read_program, text)
            self.assertIs(is_program_text(text), False, text)

    def test_no_runs(self):
        for text in [RUN_TEXT[:-1], RUN_TEXT + "\n", "\n", " ", "enter", "enter \n", " enter\n", "writer\n", "writer 00\n", "writer 01\n", "writer -1\n", "writer x\n",
                     "writer 0 0 0\n", "writer  0\n", "begin 0\n", "begin X\n", "begin\n", "begin -\n", "end xxxxxxxxx\n", "leave\n", "leave x\n", "root 0\n", "root r 0\n",
                     "root 0 -\n", "field 0 f\n", "field 0 0 0\n", "mark 0 x\n", "mark 0\n", "mark 0 +1\n", "Enter\n", "new x\n", "quiet\n", "enter\nwriter 0", "enter\n\nenter\n",
                     "enter\r\n", "writer " + "1" * 41 + "\n", "writer " + "9" * 100000 + "\n", "writer \u0661\n", "writer 1_0\n", "0 writer\n", "enter 0\n"]:
            self.no_text(read_run, text)
            self.assertIs(is_run_text(text), False, text)

    def test_any_value(self):
        for read in [read_statement, read_program, read_run]:
            for thing in odd_values() + [b"quiet", ["quiet"], ("quiet",), TEXT.encode(), "x" * 1000000, " " * 1000000, "loop\n" * 200000, "  " * 500000 + "x",
                                         "either\n" + "or\n" * 300000, "\n" * 1000000, nested(60), PROGRAM, "0." * 500000, "1" * 1000000]:
                if thing == "" and isinstance(thing, str) and read is read_run:
                    continue
                self.no_text(read, thing)

    def test_many_lines(self):
        self.assertEqual(read_statement("either" + "\nor" * 300000), ("either", [[]] * 300001))
        self.assertEqual(read_statement("loop" + "\n  quiet" * 100000), ("loop", [("quiet",)] * 100000))

    def test_blanks_ahead(self):
        for levels, good in [(100, True), (101, True), (102, False), (103, False), (5000, False)]:
            text = "\n".join(" " * (2 * level) + "loop" for level in range(levels))
            if good:
                self.assertEqual(read_statement(text), deep(levels))
                self.assertEqual(show_statement(deep(levels)), text)
            else:
                self.no_text(read_statement, text)
        text = show_statement(deep(101))
        self.assertEqual(max(len(line) - len(line.lstrip(" ")) for line in text.split("\n")), 200)
        self.no_text(read_statement, text + "\n" + " " * 202 + "quiet")
        self.no_text(read_statement, text.replace(" " * 200, " " * 201))
        head = "cells x\nroots r\nfields\nwriter\n"
        for levels, good in [(99, True), (100, True), (101, False), (3000, False)]:
            text = head + "\n".join("  " + " " * (2 * level) + "loop" for level in range(levels)) + "\n"
            if good:
                self.assertEqual(read_program(text), Program(["x"], ["r"], [[deep(levels)]]))
                self.assertEqual(show_program(read_program(text)), text)
            else:
                self.no_text(read_program, text)

    def test_deep_statements(self):
        either = ("either", [[]])
        for level in range(29):
            either = ("either", [[either], []])
        self.assertEqual(read_statement(show_statement(either)), either)
        program = Program(["x"], ["r"], [[deep(29, [("quiet",)])]])
        self.assertEqual(read_program(show_program(program)), program)

    def test_drawn_statements(self):
        seen = {}
        for seed in range(600):
            statement = drawn_statement(random.Random(seed), 3)
            self.assertIs(is_statement(statement), True)
            text = show_statement(statement)
            self.assertEqual(read_statement(text), statement)
            self.assertIs(is_statement_text(text), True)
            self.assertEqual(seen.setdefault(text, statement), statement)

    def test_drawn_programs(self):
        for seed in range(60):
            cells, roots, bodies, fields = random_parts(seed)
            for program in [visible(seed), listed(seed), mild(seed), Program(cells, roots, bodies, fields=fields)]:
                text = show_program(program)
                self.assertEqual(read_program(text), program)
                self.assertIs(is_program_text(text), True)

    def test_drawn_runs(self):
        for seed in range(200):
            rng = random.Random(seed)
            run = [drawn_step(rng) for turn in range(rng.randint(0, 8))]
            self.assertEqual(read_run(show_run(run)), run)
            self.assertIs(is_run_text(show_run(run)), True)

    def check_edits(self, text, most, seed, read, show, is_text):
        """Of a text with one sign put in, out or otherwise just those are read that are written so."""
        read_so = 0
        for other in edits(text, LETTERS, most, seed):
            try:
                thing = read(other)
            except NoText:
                self.assertIs(is_text(other), False, other)
            else:
                self.assertIs(is_text(other), True, other)
                self.assertEqual(show(thing), other)
                read_so += 1
        return read_so

    def test_one_sign_otherwise(self):
        many = 0
        for text in STATEMENTS:
            many += self.check_edits(text, 3000, 0, read_statement, show_statement, is_statement_text)
        for seed in range(60):
            text = show_statement(drawn_statement(random.Random(seed), 3))
            many += self.check_edits(text, 300, seed, read_statement, show_statement, is_statement_text)
            text = show_program(mild(seed))
            many += self.check_edits(text, 150, seed, read_program, show_program, is_program_text)
        many += self.check_edits(TEXT, 3000, 0, read_program, show_program, is_program_text)
        many += self.check_edits(RUN_TEXT, 4000, 0, read_run, show_run, is_run_text)
        for number in [BIG, 10 * BIG - 1]:
            many += self.check_edits(f"writer {number}\nmark 0 {number}\n", 3000, 0, read_run, show_run, is_run_text)
        self.assertGreater(many, 1000)

    def test_results_are_new(self):
        one, two = read_statement("loop\n  loop"), read_statement("loop\n  loop")
        one[1].clear()
        self.assertEqual([two, read_statement("loop\n  loop")], [("loop", [("loop", [])])] * 2)
        read_run(RUN_TEXT).clear()
        self.assertEqual(read_run(RUN_TEXT), RUN)
        inner = read_statement("either\n  loop\nor\n  loop")
        lists = [inner[1], *inner[1], inner[1][0][0][1], inner[1][1][0][1]]
        self.assertEqual(len({id(part) for part in lists}), 5)

    def test_arguments_stay(self):
        statement, run = ("loop", [("quiet",)]), list(RUN)
        show_statement(statement)
        show_run(run)
        self.assertEqual((statement, run), (("loop", [("quiet",)]), RUN))
