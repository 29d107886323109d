"""[30] rows."""
import unittest

from askless.programs import Program
from askless.rows import is_over, rank_of, thing_of
from askless.steps import begin_row, followers


def go(program, steps, row=None):
    """The row behind steps none of which is wrong."""
    row = begin_row(program) if row is None else row
    for step in steps:
        row = dict(followers(program, row))[step]
    return row


class RowsTest(unittest.TestCase):
    def test_thing_and_rank(self):
        program = Program(["y", "x"], ["r"], [[("new", "y"), ("mark", "y", 2), ("root", "r", "y"), ("new", "x"),
                                              ("point", "y", "g", "x")]], fields=["g", "f"])
        row = begin_row(program)
        self.assertEqual([thing_of(program, row, cell) for cell in "xy"], [(), ()])
        self.assertEqual([rank_of(program, row, cell) for cell in "xy"], [-1, -1])
        row = go(program, [("writer", 0)] * 3)
        self.assertEqual([thing_of(program, row, cell) for cell in "xy"], [(), (2, ("", ""))])
        self.assertEqual([rank_of(program, row, cell) for cell in "xy"], [-1, 0])
        row = go(program, [("writer", 0)] * 2, row)
        self.assertEqual([thing_of(program, row, cell) for cell in "xy"], [(0, ("", "")), (2, ("", "x"))])
        self.assertEqual([rank_of(program, row, cell) for cell in "xy"], [0, 0])

    def test_is_over(self):
        program = Program(["x"], ["r"], [[("new", "x"), ("later", "x")], [("ask", "q")]])
        rows = [begin_row(program)]
        for step in [("writer", 0), ("writer", 0), ("writer", 1), ("begin", "x"), ("end", "x")]:
            rows.append(go(program, [step], rows[-1]))
        self.assertEqual([is_over(program, row) for row in rows], [False] * 5 + [True])
        self.assertEqual(rows[-1][4], ("q",))
        self.assertIs(is_over(Program(["x"], ["r"], [[]]), begin_row(Program(["x"], ["r"], [[]]))), True)
        two = Program(["x"], ["r"], [[("quiet",)], [("root", "r", "")]])
        steps = [("writer", 1), ("writer", 0), ("writer", 0)]
        self.assertEqual([is_over(two, go(two, steps[:many])) for many in range(4)], [False, False, False, True])
        own = Program(["x"], ["r"], [[("quiet",)]])
        self.assertEqual([is_over(own, go(own, [("writer", 0)] * many)) for many in range(3)], [False, False, True])
