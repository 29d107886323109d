"""[64] promises."""
import random
import unittest

from askless.errors import NotRight, TooMany, Wrong
from askless.logs import Logs
from askless.promises import Promise, broken, never
from askless.tables import Table
from tests.drawn import listed, mild, right_programs, visible
from tests.test_logs import EARLY, FIRST, HASTY, IDLE, NONE, SWAP, TURN
from tests.values import nested, odd_values

BIG = 10 ** 39
# No walker that read the mark 1 reads the mark 2 of that cell, or any mark but of the cells 0 and 1.
ROWS = [(0, ("mark", 0, 1), 1), (1, ("mark", 0, 2), None), (1, ("root", None, -1), 0), (1, ("mark", 1, None), 7), (7, ("mark", None, None), None),
        (0, ("field", None, "f", BIG), 99), (0, ("mark", None, 3), 0), (0, ("mark", None, None), 5)]


def state_by_rows(rows, log):
    """(state, index of the read that breaks it), by the definition."""
    state = 0
    for at, read in enumerate(log):
        fitting = [row for row in rows if row[0] == state and row[1][0] == read[0]
                   and all(part is None or part == other for part, other in zip(row[1][1:], read[1:]))]
        if fitting:
            state = fitting[0][2]
            if state is None:
                return None, at
    return state, None


def drawn_promise(rng, program):
    def part(*choices):
        return rng.choice((None,) + choices)
    rows = []
    for turn in range(rng.randint(1, 6)):
        pattern = rng.choice([("root", part(*program.roots()), part(-1, 0, 1)), ("mark", part(0, 1), part(0, 1, 2, 3)),
                              ("field", part(0, 1), part(*program.fields()), part(-1, 0, 1))])
        rows.append((rng.randint(0, 2), pattern, rng.choice([None, 0, 1, 1, 2, 2])))
    return Promise(rows)


class PromiseTest(unittest.TestCase):
    def test_states(self):
        promise = Promise(ROWS)
        for log, state, at in [([], 0, None), ([NONE, FIRST], 0, None), ([FIRST, ("mark", 0, 1)], 1, None),
                               ([FIRST, ("mark", 0, 1), ("mark", 0, 2)], None, 2), ([FIRST, ("mark", 0, 1), NONE, ("mark", 0, 2)], 5, None),
                               ([FIRST, ("mark", 0, 1), ("root", "r", 1), ("mark", 1, 0), ("mark", 0, 1), NONE], None, 4),
                               ([FIRST, ("mark", 0, 3), ("mark", 0, 1)], 1, None), ([FIRST, ("mark", 0, 0), ("mark", 0, 1)], 5, None),
                               ([("field", 0, "f", BIG)], 99, None), ([FIRST, ("mark", 0, 1), ("mark", 0, 2), ("mark", 0, 2)], None, 2)]:
            self.assertEqual(promise.state_after(log), state)
            self.assertEqual(promise.broken_at(log), at)
        self.assertEqual(Promise([]).state_after([FIRST] * 1000), 0)
        self.assertIs(Promise([]).broken_at([FIRST]), None)

    def test_the_first_row_counts(self):
        for rows, state in [([(0, ("root", None, None), 2), (0, ("root", "r", 0), 3)], 2), ([(0, ("root", "r", 0), 3), (0, ("root", None, None), 2)], 3),
                            ([(1, ("root", "r", 0), 3), (0, ("root", "s", None), 2)], 0), ([(0, ("root", "r", 0), None), (0, ("root", "r", 0), 1)], None)]:
            self.assertEqual(Promise(rows).state_after([FIRST]), state)

    def test_no_promises(self):
        pattern = ("mark", None, 0)
        rows = [(0, pattern), (0, pattern, 1, 1), [0, pattern, 1], (-1, pattern, 1), (100, pattern, 1), (True, pattern, 1), (None, pattern, 1),
                (0, pattern, -1), (0, pattern, 100), (0, pattern, False), (0, pattern, "0"), (BIG, pattern, 0), (0, pattern, BIG),
                (0, ["mark", None, 0], 1), (0, ("mark", None, 4), 1), (0, ("mark", None, True), 1), (0, ("mark", -1, None), 1),
                (0, ("mark", False, None), 1), (0, ("root", "R", None), 1), (0, ("root", None, -2), 1), (0, ("root", None), 1),
                (0, ("field", None, None), 1), (0, (None, None, None), 1), (0, None, 1), (0, ("field", None, "f", None, None), 1),
                (0, ("marks", None, None), 1), (0, ("mark", nested(57), None), 1)]
        for row in rows + odd_values():
            for thing in [[row], ROWS + [row], (row,)]:
                with self.assertRaises(Wrong) as caught:
                    Promise(thing)
                self.assertEqual(caught.exception.place, 0)
        for thing in odd_values():
            if not (isinstance(thing, (list, tuple)) and len(thing) == 0):
                with self.assertRaises(Wrong):
                    Promise(thing)
        self.assertEqual(len(Promise([(0, pattern, 1)] * 200000).rows()), 200000)

    def test_rows(self):
        rows = list(ROWS)
        promise = Promise(rows)
        rows.clear()
        self.assertEqual(promise.rows(), ROWS)
        self.assertEqual(Promise(tuple(ROWS)).rows(), ROWS)
        promise.rows().clear()
        self.assertEqual(promise.rows(), ROWS)
        self.assertEqual(Promise([]).rows(), [])
        self.assertEqual(Promise(()), Promise([]))

    def test_equal(self):
        self.assertEqual(Promise(ROWS), Promise(tuple(ROWS)))
        for rows in [ROWS[1:], ROWS[::-1], [], ROWS + ROWS]:
            self.assertNotEqual(Promise(ROWS), Promise(rows))
        for thing in odd_values() + [ROWS, SWAP]:
            self.assertIs(Promise(ROWS) == thing, False)

    def test_never(self):
        patterns = [("mark", None, 0), ("root", "r", None)]
        promise = never(patterns)
        self.assertEqual(promise.rows(), [(0, ("mark", None, 0), None), (0, ("root", "r", None), None)])
        self.assertEqual(patterns, [("mark", None, 0), ("root", "r", None)])
        self.assertEqual(never([]), Promise([]))
        self.assertEqual(promise.broken_at([("root", "s", 0), ("mark", 0, 1), ("mark", 0, 0)]), 2)

    def test_drawn_logs(self):
        for number, program in enumerate(right_programs(12, 60, (visible, listed))):
            promise = drawn_promise(random.Random(number), program)
            for log in Logs(program).first(200):
                self.assertEqual((promise.state_after(log), promise.broken_at(log)), state_by_rows(promise.rows(), log))


class BrokenTest(unittest.TestCase):
    def test_programs(self):
        self.assertEqual(broken(EARLY, never([("mark", None, 0)])), [FIRST, ("mark", 0, 0)])
        self.assertIs(broken(SWAP, never([("mark", None, 0)])), None)
        self.assertEqual(broken(SWAP, never([("root", None, 0)])), [FIRST])
        self.assertEqual(broken(SWAP, never([("root", None, None)])), [NONE])
        self.assertEqual(broken(SWAP, Promise([(0, ("mark", 0, 1), 1), (1, ("root", "r", 1), 2), (2, ("mark", 1, 2), None)])),
                         [FIRST, ("mark", 0, 1), ("root", "r", 1), ("mark", 1, 2)])
        self.assertIs(broken(SWAP, Promise([(0, ("mark", 0, 2), 1), (1, ("root", "r", 1), None)])), None)
        self.assertIs(broken(SWAP, Promise([])), None)
        # Of several logs of one length the least one is told, whichever comes first in a run.
        self.assertEqual(broken(SWAP, never([("root", None, 1), ("mark", None, None)])), [FIRST, ("mark", 0, 1)])
        falling = EARLY.with_body(0, [("new", "x"), ("root", "r", "x"), ("mark", "x", 3), ("mark", "x", 2), ("mark", "x", 1)])
        self.assertEqual(broken(falling, Promise([(0, ("mark", 0, 3), 1), (1, ("mark", 0, 3), 1), (1, ("mark", None, None), None)])),
                         [FIRST, ("mark", 0, 3), ("mark", 0, 1)])
        self.assertEqual(broken(falling, never([("mark", 0, 3), ("mark", 0, 2), ("mark", 0, 1)])), [FIRST, ("mark", 0, 1)])
        turned = EARLY.with_body(0, falling.body(0)[:2] + [("loop", falling.body(0)[2:])])
        self.assertEqual(broken(turned, Promise([(0, ("mark", 0, 2), 1), (1, ("mark", 0, 3), None)])), [FIRST, ("mark", 0, 2), ("mark", 0, 3)])
        self.assertIs(broken(falling, Promise([(0, ("mark", 0, 2), 1), (1, ("mark", 0, 3), None)])), None)
        # The state goes round: the third read of the root finds x again.
        turns = Promise([(0, NONE, 1), (1, FIRST, 2), (2, NONE, 3), (3, NONE, None)])
        self.assertEqual(broken(TURN, turns), [NONE, FIRST, NONE, NONE])
        self.assertEqual(broken(IDLE, Promise([(state, NONE, state + 1) for state in range(99)] + [(99, NONE, None)])), [NONE] * 100)

    def test_errors(self):
        promise, many = never([("root", None, None)]), len(Table(SWAP))
        self.assertEqual(broken(SWAP, promise, most=many), [NONE])
        for program, most, error in [(SWAP, many - 1, TooMany), (HASTY, 1, TooMany), (HASTY, 1000, NotRight)]:
            with self.assertRaises(error) as caught:
                broken(program, promise, most=most)
            if error is TooMany:
                self.assertEqual(caught.exception.limit, most)

    def test_the_least_of_all_logs(self):
        seen = set()
        for number, program in enumerate(right_programs(40, 60, (visible, listed, mild))):
            logs = Logs(program)
            line = logs.first(150)
            for turn in range(3):
                promise = drawn_promise(random.Random(number * 3 + turn), program)
                found = broken(program, promise)
                wanted = [log for log in line if promise.state_after(log) is None]
                seen.add(len(found or []))
                if wanted:
                    self.assertEqual(found, wanted[0])
                elif found is not None:
                    self.assertIs(found in logs, True)
                    self.assertEqual(promise.broken_at(found), len(found) - 1)
                    self.assertGreaterEqual(len(found), len(line[-1]))
        self.assertTrue({0, 1, 2, 3} <= seen)
