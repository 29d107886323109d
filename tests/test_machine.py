"""[40] machine."""
import random
import unittest

from askless.errors import AskError, Fault, Freed, Gone, NoStep, Nothing, NoWalker, Wrong
from askless.machine import Machine
from askless.programs import Program
from tests.model import Visited, World, mild_parts, random_parts, random_step
from tests.test_steps import V, W, made
from tests.values import odd_values

LINKED = [("new", "x"), ("new", "y"), ("mark", "y", 2), ("point", "x", "f", "y"), ("root", "r", "x")]


def gone_as(program, steps):
    machine = Machine(program)
    for step in steps:
        machine.step(step)
    return machine


def told(machine):
    """All that the queries tell."""
    walkers = range(machine.run().count(("enter",)))
    return [
        machine.places(), machine.asks(), machine.laters(), machine.things(), machine.roots(), machine.locks(),
        machine.inside(), [machine.held(w) for w in walkers], [machine.log(w) for w in walkers], machine.steps(),
        [machine.reads(w) for w in machine.inside()],
    ]


def attempt(machine, step):
    """What a step returns, or how it is refused."""
    try:
        return ("done", machine.step(step))
    except NoStep:
        return ("none",)
    except Fault as error:
        return ("fault", error.writer, error.address, error.name)
    except Freed as error:
        return ("freed", error.cell)
    except Gone as error:
        return ("gone", error.walker)


class MachineTest(unittest.TestCase):
    def refused(self, machine, step, *expected):
        """A refused step raises just this error and changes nothing."""
        before, run = told(machine), machine.run()
        with self.assertRaises(AskError) as caught:
            machine.step(step)
        self.assertEqual((type(caught.exception), *vars(caught.exception).values()), expected)
        self.assertEqual((told(machine), machine.run(), len(machine)), (before, run, len(run)))

    def test_wrong_program(self):
        for thing in odd_values() + [Machine(made([])), Program]:
            with self.assertRaises(Wrong) as caught:
                Machine(thing)
            self.assertEqual(caught.exception.place, 0)

    def test_the_begin(self):
        machine = Machine(made([("lock", "k")], [("lock", "b")], cells="yx", roots="sr", fields="gf"))
        self.assertEqual(machine.places(), [(0,), (0,)])
        self.assertEqual((machine.asks(), machine.laters(), machine.inside(), machine.run()), ([], [], [], []))
        self.assertEqual(list(machine.things().items()), [("x", None), ("y", None)])
        self.assertEqual(list(machine.roots().items()), [("r", ""), ("s", "")])
        self.assertEqual(list(machine.locks().items()), [("b", None), ("k", None)])
        self.assertEqual((machine.steps(), len(machine)), ([W, V], 0))

    def test_steps_of_writers(self):
        machine = gone_as(made(LINKED + [("lock", "l")], fields="gf"), [W] * 6)
        self.assertEqual(machine.things(), {"x": (0, {"f": "y", "g": ""}), "y": (2, {"f": "", "g": ""})})
        self.assertEqual(list(machine.things()["x"][1]), ["f", "g"])
        self.assertEqual((machine.roots(), machine.locks(), machine.places()), ({"r": "x"}, {"l": 0}, [(6,)]))
        self.assertEqual((machine.steps(), machine.run(), len(machine)), ([], [W] * 6, 6))
        self.refused(machine, W, NoStep)

    def test_reads(self):
        machine = gone_as(made(LINKED, fields="fg"), [W] * 5)
        self.assertIs(machine.step(("enter",)), None)
        self.assertEqual(machine.step(("root", 0, "r")), 0)
        self.assertEqual(machine.step(("field", 0, 0, "g")), -1)
        self.assertEqual(machine.step(("field", 0, 0, "f")), 1)
        self.assertEqual(machine.step(("mark", 0, 1)), 2)
        self.assertEqual(machine.step(("mark", 0, 0)), 0)
        self.assertEqual(machine.step(("root", 0, "r")), 0)
        self.assertEqual(machine.held(0), ["x", "y"])
        log = [("root", "r", 0), ("field", 0, "g", -1), ("field", 0, "f", 1), ("mark", 1, 2), ("mark", 0, 0), ("root", "r", 0)]
        self.assertEqual(machine.log(0), log)
        self.assertEqual(machine.reads(0), [("field", 0, 0, "f"), ("field", 0, 0, "g"), ("field", 0, 1, "f"),
                                            ("field", 0, 1, "g"), ("mark", 0, 0), ("mark", 0, 1), ("root", 0, "r")])
        self.assertIs(machine.step(("leave", 0)), None)
        self.assertEqual((machine.held(0), machine.log(0), machine.inside()), (["x", "y"], log, []))

    def test_any_value_as_step(self):
        machine = gone_as(made(LINKED + [("either", [[], []]), ("loop", [])], [("loop", [])]), [W] * 5 + [("enter",), ("root", 0, "r")])
        steps = odd_values() + [
            ("writer",), ("writer", 0), ("writer", 0, 2), ("writer", 0, -1), ("writer", 0, True), ("writer", False, 0), ("writer", 0, 0, 0),
            ("writer", 2), ("writer", -1), ("writer", 10 ** 39), ("writer", 1), ("writer", 1, 2), ("writer", 1, False), ("writer", "0", 0),
            ["writer", 0, 0], ("writer", [0], 0), ("enter", 0), ["enter"], ("enter",) * 2, "enter", ("leave",), ("leave", 1), ("leave", -1),
            ("leave", False), ("leave", "0"), ("leave", 0, 0), ("root", 0), ("root", 0, "s"), ("root", 0, "x"), ("root", 1, "r"),
            ("root", False, "r"), ("root", -1, "r"), ("root", 0, 0), ("root", 0, ["r"]), ("root", 0, "r", 0), ("root", 0, "R"),
            ("field", 0, 0, "g"), ("field", 0, 1, "f"), ("field", 0, -1, "f"), ("field", 0, False, "f"), ("field", 0, 10 ** 39, "f"),
            ("field", 1, 0, "f"), ("field", 0, "f"), ("field", 0, "x", "f"), ("mark", 0, 1), ("mark", 0, False), ("mark", 0, -1),
            ("mark", 0), ("mark", 0, 0, 0), ("mark", 1, 0), ("begin", "x"), ("end", "x"), ("begin",), ("begin", ["x"]), ("end", 0),
            ("quiet",), ("new", "x"), ("free", "x"), ("begin", "zz"), ("end", "zz"), ("end", "x", "y"), (b"enter",),
        ]
        for step in steps:
            self.refused(machine, step, NoStep)
        self.assertEqual(machine.run(), [W] * 5 + [("enter",), ("root", 0, "r")])

    def test_eithers_and_loops(self):
        program = made([("either", [[], [("loop", [("quiet",)])]]), ("loop", [])])
        machine = Machine(program)
        self.assertEqual(machine.steps(), [("writer", 0, 0), ("writer", 0, 1)])
        self.refused(machine, W, NoStep)
        machine.step(("writer", 0, 1))
        self.assertEqual(machine.places(), [(0, 1, 0)])
        machine.step(("writer", 0, 1))
        machine.step(W)
        self.assertEqual((machine.places(), machine.asks()), ([(0, 1, 0, 0, 0)], ["!0"]))
        machine.step(W)
        self.assertEqual((machine.places(), machine.asks()), ([(0, 1, 0)], []))
        machine.step(("writer", 0, 0))
        machine.step(("writer", 0, 1))
        self.assertEqual(machine.places(), [(1,)])
        machine.step(("writer", 0, 0))
        self.assertEqual((machine.places(), machine.steps()), ([(2,)], []))
        self.assertEqual(gone_as(program, [("writer", 0, 0)]).places(), [(1,)])

    def test_quiets_wait_for_elder_walkers_alone(self):
        machine = gone_as(made([("ask", "q"), ("await", "q"), ("quiet",)]), [("enter",), W, ("enter",)])
        self.refused(machine, W, NoStep)
        self.assertEqual(machine.steps(), [])
        machine.step(("leave", 0))
        self.assertEqual(machine.steps(), [W])
        machine.step(W)
        machine.step(W)
        self.assertEqual(machine.asks(), ["!0"])
        machine.step(("enter",))
        self.refused(machine, W, NoStep)
        machine.step(("leave", 2))
        self.refused(machine, W, NoStep)
        machine.step(("leave", 1))
        machine.step(W)
        self.assertEqual((machine.asks(), machine.places()), ([], [(3,)]))

    def test_an_elder_asking_is_forgotten(self):
        machine = gone_as(made([("ask", "p"), ("ask", "q"), ("ask", "p"), ("await", "q"), ("await", "p")]), [W, ("enter",), W, W])
        self.assertEqual(machine.asks(), ["q", "p"])
        self.refused(machine, W, NoStep)
        machine.step(("enter",))
        machine.step(("leave", 0))
        self.assertEqual([machine.step(W), machine.step(W)], [None, None])
        newer = gone_as(made([("ask", "p"), ("ask", "p"), ("await", "p")]), [W, ("enter",), W])
        self.refused(newer, W, NoStep)

    def test_the_house(self):
        machine = gone_as(made([("new", "x"), ("new", "y"), ("later", "y"), ("later", "x")]), [W] * 4)
        self.assertEqual((machine.laters(), machine.steps()), (["x", "y"], [("begin", "x"), ("begin", "y")]))
        self.refused(machine, ("end", "x"), NoStep)
        machine.step(("enter",))
        self.assertIs(machine.step(("begin", "x")), None)
        self.assertEqual((machine.laters(), machine.asks()), (["y"], ["~x"]))
        self.refused(machine, ("begin", "x"), NoStep)
        self.refused(machine, ("end", "x"), NoStep)
        self.assertEqual(machine.steps(), [("begin", "y")])
        machine.step(("leave", 0))
        self.assertEqual(machine.steps(), [("begin", "y"), ("end", "x")])
        machine.step(("end", "x"))
        self.assertEqual((machine.things()["x"], machine.asks()), (None, []))
        self.refused(machine, ("end", "x"), NoStep)

    def test_locks(self):
        machine = gone_as(made([("lock", "l"), ("lock", "l")], [("lock", "l"), ("unlock", "l")], [("unlock", "l")]), [W])
        self.assertEqual((machine.locks(), machine.steps()), ({"l": 0}, [W, ("writer", 2)]))
        self.refused(machine, V, NoStep)
        self.refused(machine, W, Fault, 0, (1,), "l")
        self.refused(machine, ("writer", 2), Fault, 2, (0,), "l")
        machine.back()
        machine.step(V)
        self.assertEqual(machine.locks(), {"l": 1})
        machine.step(V)
        self.assertEqual(machine.locks(), {"l": None})

    def test_faults(self):
        def fault(body, many, *expected):
            self.refused(gone_as(made(body, cells="xyz"), [W] * many), W, Fault, 0, *expected)
        fault([("new", "x"), ("new", "x")], 1, (1,), "x")
        for statement in [("mark", "y", 0), ("point", "y", "f", ""), ("point", "x", "f", "y"), ("root", "r", "y"), ("free", "y"),
                          ("later", "y"), ("point", "y", "f", "z"), ("point", "z", "f", "y")]:
            name = "z" if statement[1] == "z" else "y"
            fault([("new", "x"), statement], 1, (1,), name)
        for statement in [("free", "x"), ("later", "x")]:
            machine = gone_as(made([("new", "x"), ("later", "x"), statement]), [W, W])
            self.refused(machine, W, Fault, 0, (2,), "x")
            machine.step(("begin", "x"))
            self.refused(machine, W, Fault, 0, (2,), "x")
        fault([("await", "q")], 0, (0,), "q")
        fault([("ask", "q"), ("await", "q"), ("await", "q")], 2, (2,), "q")
        fault([("unlock", "l")], 0, (0,), "l")
        inner = gone_as(made([], [("loop", [("either", [[], [("await", "q")]])])]), [("writer", 1, 1), ("writer", 1, 1)])
        self.refused(inner, V, Fault, 1, (0, 0, 0, 1, 0), "q")
        self.assertIn(V, inner.steps())

    def test_freed(self):
        program = made([("new", "x"), ("root", "r", "x"), ("free", "x")])
        machine = gone_as(program, [W, W, ("enter",), ("root", 0, "r"), ("enter",), ("enter",), ("root", 2, "r")])
        self.refused(machine, W, Freed, "x")
        self.assertIn(W, machine.steps())
        machine.step(("leave", 0))
        self.refused(machine, W, Freed, "x")
        machine.step(("leave", 2))
        machine.step(W)
        self.assertEqual((machine.things()["x"], machine.roots()), (None, {"r": "?"}))

    def test_what_is_still_held_when_reads_were_taken_back(self):
        program = made([("new", "x"), ("root", "r", "x"), ("free", "x")])
        machine = gone_as(program, [W, W, ("enter",), ("enter",), ("root", 0, "r"), ("root", 1, "r"), ("root", 1, "r")])
        machine.back()
        machine.back()
        self.assertEqual((machine.held(0), machine.held(1)), (["x"], []))
        self.refused(machine, W, Freed, "x")
        machine.step(("leave", 0))
        machine.back()
        self.refused(machine, W, Freed, "x")
        machine.back()
        self.assertIs(machine.step(W), None)

    def test_the_house_frees_what_is_held(self):
        program = made([("new", "x"), ("root", "r", "x"), ("later", "x")])
        machine = gone_as(program, [W] * 3 + [("enter",), ("root", 0, "r"), ("begin", "x")])
        # That it cannot be done yet comes ahead of what would be wrong.
        self.refused(machine, ("end", "x"), NoStep)
        machine.step(("leave", 0))
        machine.step(("enter",))
        machine.step(("root", 1, "r"))
        self.refused(machine, ("end", "x"), Freed, "x")
        self.assertEqual(machine.steps(), [("end", "x")])

    def test_a_fault_comes_ahead_of_freed(self):
        program = made([("new", "x"), ("root", "r", "x"), ("later", "x"), ("free", "x")])
        self.refused(gone_as(program, [W] * 3 + [("enter",), ("root", 0, "r")]), W, Fault, 0, (3,), "x")

    def test_gone(self):
        body = [("new", "x"), ("new", "y"), ("point", "y", "f", "x"), ("root", "r", "x"), ("root", "s", "y"), ("free", "x")]
        machine = gone_as(made(body, roots="rs"), [W] * 6 + [("enter",)])
        self.assertEqual(machine.roots(), {"r": "?", "s": "y"})
        self.assertEqual(machine.things()["y"], (0, {"f": "?"}))
        self.refused(machine, ("root", 0, "r"), Gone, 0)
        self.assertEqual(machine.step(("root", 0, "s")), 0)
        self.refused(machine, ("field", 0, 0, "f"), Gone, 0)
        self.assertIn(("field", 0, 0, "f"), machine.reads(0))
        self.assertIn(("root", 0, "r"), machine.reads(0))
        self.assertEqual(machine.step(("mark", 0, 0)), 0)
        machine.step(("enter",))
        self.refused(machine, ("root", 1, "r"), Gone, 1)

    def test_a_cell_made_anew(self):
        again = [("new", "x"), ("root", "r", "x"), ("root", "r", ""), ("quiet",), ("free", "x")]
        machine = gone_as(made(again + again), [W, W, ("enter",), ("root", 0, "r"), W, W, ("leave", 0), W, W, W, W, ("enter",)])
        self.assertEqual(machine.step(("root", 1, "r")), 0)
        self.assertEqual((machine.held(0), machine.held(1)), (["x"], ["x"]))
        self.assertEqual(machine.things()["x"], (0, {"f": ""}))
        machine.step(W)
        machine.step(W)
        self.refused(machine, W, NoStep)
        machine.step(("leave", 1))
        machine.step(W)
        machine.step(W)
        self.assertEqual(machine.things()["x"], None)

    def test_no_walker(self):
        machine = gone_as(made(LINKED), [("enter",), ("enter",), ("leave", 0)])
        for walker in [2, -1, 10 ** 39, True, False] + [thing for thing in odd_values() if not isinstance(thing, int)]:
            for ask in [machine.held, machine.log, machine.reads]:
                with self.assertRaises(NoWalker) as caught:
                    ask(walker)
                self.assertIs(caught.exception.walker, walker)
        with self.assertRaises(NoWalker) as caught:
            machine.reads(0)
        self.assertEqual(caught.exception.walker, 0)
        self.assertEqual((machine.held(0), machine.log(0), machine.inside()), ([], [], [1]))

    def test_back(self):
        machine = Machine(made(LINKED))
        with self.assertRaises(Nothing):
            machine.back()
        steps = [W, W, ("enter",), W, W, W, ("root", 0, "r"), ("field", 0, 0, "f"), ("mark", 0, 1), ("root", 0, "r"), ("leave", 0)]
        states = []
        for step in steps:
            states.append(told(machine))
            machine.step(step)
        for step in reversed(steps):
            self.assertEqual(machine.back(), step)
            self.assertEqual(told(machine), states.pop())
        self.assertEqual((len(machine), machine.run(), machine == Machine(made(LINKED))), (0, [], True))
        with self.assertRaises(Nothing):
            machine.back()

    def test_back_over_quiets_and_frees(self):
        machine = gone_as(made([("new", "x"), ("root", "r", "x"), ("root", "r", ""), ("quiet",), ("free", "x")]),
                          [W, W, ("enter",), ("root", 0, "r"), W, W, ("leave", 0), W, W])
        self.assertEqual([machine.back() for step in range(3)], [W, W, ("leave", 0)])
        self.refused(machine, W, NoStep)
        self.assertEqual((machine.inside(), machine.held(0), machine.asks()), ([0], ["x"], ["!0"]))
        machine.back()
        self.assertEqual(machine.asks(), [])

    def test_equal_and_copied(self):
        program = made(LINKED)
        one, other = gone_as(program, [W, ("enter",)]), gone_as(made(LINKED), [W, ("enter",)])
        self.assertIs(one == other, True)
        self.assertIs(one != other, False)
        other.step(W)
        self.assertIs(one == other, False)
        self.assertIs(one == gone_as(program, [("enter",), W]), False)
        self.assertIs(one == gone_as(made(LINKED, []), [W, ("enter",)]), False)
        for thing in odd_values() + [program]:
            self.assertIs(one == thing, False)
        copied = other.copied()
        self.assertIs(copied == other, True)
        copied.step(W)
        copied.back()
        copied.back()
        self.assertIs(copied == one, True)
        self.assertEqual(len(other), 3)
        other.step(("leave", 0))
        self.assertEqual((copied.inside(), other.inside()), ([0], []))

    def test_what_is_returned_belongs_to_the_caller(self):
        machine = gone_as(made(LINKED + [("ask", "q"), ("lock", "l"), ("later", "y")], [("quiet",)]),
                          [W] * 8 + [("enter",), ("root", 0, "r"), ("field", 0, 0, "f")])
        for ask in [machine.places, machine.asks, machine.laters, machine.inside, machine.steps, machine.run, machine.things,
                    machine.roots, machine.locks, lambda: machine.held(0), lambda: machine.log(0), lambda: machine.reads(0)]:
            before = ask()
            self.assertTrue(before)
            ask().clear()
            self.assertEqual(ask(), before)
        things = machine.things()
        things["x"][1].clear()
        self.assertEqual(machine.things()["x"], (0, {"f": "y"}))

    def test_two_machines_do_not_touch_one_another(self):
        program = made(LINKED)
        one, other = Machine(program), Machine(program)
        one.step(("enter",))
        for step in range(5):
            one.step(W)
            self.assertEqual(len(other), step)
            other.step(W)
        one.step(("root", 0, "r"))
        self.assertEqual((other.inside(), one.held(0)), ([], ["x"]))

    def test_long_runs(self):
        again = [("new", "x"), ("root", "r", "x"), ("root", "r", ""), ("quiet",), ("free", "x")]
        machine = Machine(made([("loop", again)]))
        for w in range(2000):
            for step in [("writer", 0, 1), W, W, ("enter",), ("root", w, "r"), W, W, ("leave", w), W, W]:
                machine.step(step)
        self.assertEqual((len(machine), machine.inside(), machine.held(1999)), (20000, [], ["x"]))
        for step in range(20000):
            machine.back()
        self.assertEqual(machine, Machine(made([("loop", again)])))


class SecondTellingTest(unittest.TestCase):
    def follow(self, parts, seed, many):
        """Random steps, and steps back, do what the definitions tell."""
        cells, roots, bodies, fields = parts
        rng, machine = random.Random(seed), Machine(Program(cells, roots, bodies, fields=fields))
        states, run = [Visited(World(cells, roots, fields, bodies))], []
        for number in range(many):
            if run and rng.random() < 0.12:
                self.assertEqual(machine.back(), run.pop())
                states.pop()
                self.assertEqual(told(machine), states[-1].told())
                continue
            step, behind = random_step(rng, states[-1]), states[-1].copied()
            expected = behind.do(step)
            self.assertEqual(attempt(machine, step), expected, (seed, step))
            if expected[0] == "done":
                run.append(step)
                states.append(behind)
            self.assertEqual(told(machine), states[-1].told())
        self.assertEqual(machine.run(), run)
        self.assertEqual(told(machine.copied()), states[-1].told())

    def test_random_steps(self):
        for seed in range(60):
            self.follow(random_parts(seed), seed, 60)
            self.follow(mild_parts(seed), seed, 60)
