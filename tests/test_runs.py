"""[42] runs."""
import random
import unittest

from askless.errors import Broken
from askless.machine import Machine
from askless.programs import Program
from askless.runs import is_run, is_wrong_run, played, walk, wrong_of
from tests.model import Visited, World, mild_parts, random_parts, random_step
from tests.test_machine import LINKED
from tests.test_steps import W, made
from tests.values import odd_values

HASTY = [("new", "x"), ("root", "r", "x"), ("root", "r", ""), ("free", "x")]
WRONG = [W, W, ("enter",), ("root", 0, "r"), W, W]
ROUND = [("loop", [("new", "x"), ("root", "r", "x"), ("root", "r", ""), ("quiet",), ("free", "x")])]


def round_run(many):
    run = []
    for w in range(many):
        run += [("writer", 0, 1), W, W, ("enter",), ("root", w, "r"), W, W, ("leave", w), W, W]
    return run


class RunsTest(unittest.TestCase):
    def broken(self, call, at):
        with self.assertRaises(Broken) as caught:
            call()
        self.assertEqual(caught.exception.at, at)

    def test_played(self):
        run = [W] * 5 + [("enter",), ("root", 0, "r"), ("field", 0, 0, "f")]
        for kind in [list, tuple]:
            machine = played(made(LINKED), kind(run))
            self.assertEqual((machine.run(), machine.held(0)), (run, ["x", "y"]))
            machine.step(("leave", 0))
        self.assertEqual(played(made(LINKED), []), Machine(made(LINKED)))
        self.assertEqual(len(run), 8)
        self.broken(lambda: played(made(LINKED), run + [W]), 8)
        self.broken(lambda: played(made(LINKED), [W, ("leave", 0)] + run), 1)
        self.broken(lambda: played(made(HASTY), WRONG + WRONG), 5)
        for thing in odd_values():
            self.broken(lambda: played(made(LINKED), [W, thing, W]), 1)
            self.broken(lambda: played(made(LINKED), [thing]), 0)

    def test_is_run(self):
        self.assertIs(is_run(made(HASTY), []), True)
        self.assertIs(is_run(made(HASTY), ()), True)
        for many in range(len(WRONG)):
            self.assertIs(is_run(made(HASTY), WRONG[:many]), True)
            self.assertIs(is_run(made(HASTY), tuple(WRONG[:many])), True)
        self.assertIs(is_run(made(HASTY), WRONG), False)
        self.assertIs(is_run(made(HASTY), [W] * 4), True)
        self.assertIs(is_run(made(HASTY), [W] * 5), False)
        self.assertIs(is_run(made(ROUND), [("writer", 0, True)]), False)
        self.assertIs(is_run(made(ROUND), [("writer", False, 1)]), False)
        self.assertIs(is_run(made(ROUND), [["writer", 0, 1]]), False)
        for thing in odd_values():
            self.assertIs(is_run(made(HASTY), thing), thing in ([], ()) and isinstance(thing, (list, tuple)))
            self.assertIs(is_run(made(HASTY), [W, thing]), False)

    def test_is_wrong_run(self):
        self.assertIs(is_wrong_run(made(HASTY), WRONG), True)
        self.assertIs(is_wrong_run(made(HASTY), tuple(WRONG)), True)
        for many in range(len(WRONG)):
            self.assertIs(is_wrong_run(made(HASTY), WRONG[:many]), False)
        self.assertIs(is_wrong_run(made(HASTY), WRONG + [W]), False)
        self.assertIs(is_wrong_run(made(HASTY), WRONG + [("leave", 0)]), False)
        self.assertIs(is_wrong_run(made(HASTY), [W] * 5), False)
        self.assertIs(is_wrong_run(made([("free", "x")]), [W]), True)
        self.assertIs(is_wrong_run(made([("free", "x")]), [("writer", False)]), False)
        for thing in odd_values():
            self.assertIs(is_wrong_run(made(HASTY), thing), False)
            self.assertIs(is_wrong_run(made(HASTY), [W, thing]), False)
            self.assertIs(is_wrong_run(made(HASTY), WRONG + [thing]), False)
            self.assertIs(is_wrong_run(made(HASTY), WRONG[:-1] + [thing]), False)

    def test_longer_runs(self):
        program, run = made(ROUND), round_run(3000)
        self.assertIs(is_run(program, run), True)
        self.assertIs(is_run(program, run + [W]), False)
        self.assertIs(is_wrong_run(program, run), False)
        wrong = made(ROUND + [("free", "x")])
        self.assertIs(is_wrong_run(wrong, run + [("writer", 0, 0), W]), True)
        self.assertIs(is_wrong_run(wrong, run + [("writer", 0, 0)]), False)
        self.assertIs(is_run(program, [("enter",)] * 100000), True)
        self.assertIs(is_run(program, [("enter",)] * 100000 + [("leave", 100000)]), False)
        self.assertIs(is_run(program, [("writer", 0, 1), W, W, ("enter",)] + [("root", 0, "r")] * 100000), True)

    def test_wrong_of(self):
        self.assertEqual(wrong_of(made(HASTY), WRONG), ("freed", "x"))
        self.assertEqual(wrong_of(made(HASTY), tuple(WRONG)), ("freed", "x"))
        self.assertEqual(wrong_of(made([("loop", [("free", "x")])]), [("writer", 0, 1), W]), ("fault", 0, (0, 0, 0), "x"))
        gone = [W] * 4 + [("enter",), ("enter",), ("root", 1, "r")]
        self.assertEqual(wrong_of(made([HASTY[0], HASTY[1], HASTY[3], ("quiet",)]), gone), ("gone", 1))

    def test_wrong_of_other_runs(self):
        program = made(HASTY)
        for many in range(len(WRONG)):
            self.broken(lambda: wrong_of(program, WRONG[:many]), many)
        self.broken(lambda: wrong_of(program, WRONG + [W]), 5)
        self.broken(lambda: wrong_of(program, [W, ("leave", 0), W]), 1)
        self.broken(lambda: wrong_of(program, [W, ("leave", 0)]), 1)
        for thing in odd_values():
            self.broken(lambda: wrong_of(program, [W, thing]), 1)
            self.broken(lambda: wrong_of(program, [thing, W]), 0)

    def test_walk(self):
        run = [W, W, ("enter",), W]
        expected = [
            (((0,),), ((), ()), ("",)), (((1,),), ((0, ("",)), ()), ("",)), (((2,),), ((0, ("",)), ()), ("x",)),
            (((2,),), ((0, ("",)), ()), ("x",)), (((3,),), ((0, ("",)), ()), ("",)),
        ]
        self.assertEqual(list(walk(made(HASTY), run)), expected)
        self.assertEqual(list(walk(made(HASTY), tuple(run))), expected)
        self.assertEqual(list(walk(made(HASTY), [])), expected[:1])
        last = list(walk(made(HASTY[:2] + HASTY[3:]), [W] * 3))[-1]
        self.assertEqual(last, (((3,),), ((), ()), ("?",)))

    def test_walk_is_broken_where_the_step_comes(self):
        for run, at in [(WRONG + [W], 5), ([W, W, ("leave", 0), W], 2), ([True], 0), ([W, ["enter"]], 1)]:
            told = walk(made(HASTY), run)
            for number in range(at + 1):
                next(told)
            self.broken(lambda: next(told), at)

    def test_walk_by_turns_and_left_early(self):
        one, other = walk(made(HASTY), [W] * 4), walk(made(LINKED), [W] * 4)
        first = [next(one), next(one)]
        second = [next(other)]
        first.append(next(one))
        second += [next(other), next(other)]
        self.assertEqual(first, list(walk(made(HASTY), [W] * 2)))
        self.assertEqual(second, list(walk(made(LINKED), [W] * 2)))
        one.close()
        self.assertEqual(list(walk(made(LINKED), [W] * 4))[3:], list(other))

    def test_walk_keeps_its_own_run(self):
        run = [W] * 4
        told = walk(made(HASTY), run)
        next(told)
        run.clear()
        self.assertEqual(len(list(told)), 4)

    def test_arguments_stay(self):
        run, program = list(WRONG), made(HASTY)
        for call in [lambda: is_run(program, run), lambda: is_wrong_run(program, run), lambda: wrong_of(program, run)]:
            self.assertEqual(call(), call())
        list(walk(program, run[:-1]))
        played(program, run[:-1])
        self.assertEqual((run, program), (WRONG, made(HASTY)))

    def test_random_runs(self):
        for seed in range(60):
            for parts in [random_parts(seed), mild_parts(seed)]:
                cells, roots, bodies, fields = parts
                program, rng = Program(cells, roots, bodies, fields=fields), random.Random(seed)
                state, run = Visited(World(cells, roots, fields, bodies)), []
                for number in range(40):
                    step, behind = random_step(rng, state), state.copied()
                    found = behind.do(step)
                    self.assertIs(is_run(program, run + [step]), found[0] == "done")
                    self.assertIs(is_wrong_run(program, run + [step]), found[0] not in ("done", "none"))
                    if found[0] == "done":
                        state, run = behind, run + [step]
                        self.broken(lambda: wrong_of(program, run), len(run))
                    else:
                        self.broken(lambda: played(program, run + [step]), len(run))
                        if found[0] != "none":
                            self.assertEqual(wrong_of(program, run + [step]), found)
                self.assertEqual(played(program, run).run(), run)
                self.assertEqual(len(list(walk(program, run))), len(run) + 1)
