"""[41] walkers."""
import unittest

from askless.errors import Gone, NoStep
from askless.machine import Machine
from askless.walkers import Walker
from tests.test_machine import LINKED, gone_as
from tests.test_steps import W, made
from tests.values import odd_values


class WalkersTest(unittest.TestCase):
    def test_a_walk(self):
        machine = gone_as(made(LINKED), [W] * 5)
        walker = machine.enter()
        self.assertIsInstance(walker, Walker)
        self.assertEqual((walker.number, walker.is_in(), walker.names()), (0, True, []))
        self.assertEqual((walker("r"), walker.follow(0, "f"), walker.look(1)), (0, 1, 2))
        self.assertEqual(walker.follow(1, "f"), -1)
        self.assertEqual(walker.names(), ["x", "y"])
        self.assertIs(walker.leave(), None)
        self.assertIs(walker.is_in(), False)
        self.assertEqual((walker.names(), walker.number), (["x", "y"], 0))
        steps = [("enter",), ("root", 0, "r"), ("field", 0, 0, "f"), ("mark", 0, 1), ("field", 0, 1, "f"), ("leave", 0)]
        self.assertEqual(machine.run(), [W] * 5 + steps)

    def test_enter_is_the_step_enter(self):
        machine = Machine(made(LINKED))
        machine.step(("enter",))
        walker = machine.enter()
        self.assertEqual((walker.number, machine.inside(), machine.run()), (1, [0, 1], [("enter",)] * 2))
        machine.step(("leave", 1))
        self.assertIs(walker.is_in(), False)

    def refused(self, walker, error=NoStep):
        for call in [lambda: walker("r"), lambda: walker.follow(0, "f"), lambda: walker.look(0), walker.leave]:
            with self.assertRaises(error):
                call()

    def test_what_cannot_be_done(self):
        machine = gone_as(made(LINKED), [W] * 5)
        walker = machine.enter()
        for thing in odd_values() + ["s", "x"]:
            for call in [lambda: walker(thing), lambda: walker.follow(thing, "f"), lambda: walker.look(thing)]:
                with self.assertRaises(NoStep):
                    call()
        walker("r")
        for thing in odd_values() + ["g"]:
            with self.assertRaises(NoStep):
                walker.follow(0, thing)
        with self.assertRaises(NoStep):
            walker.look(False)
        walker.leave()
        self.refused(walker)
        self.assertEqual(len(machine), 8)

    def test_what_is_gone(self):
        machine = gone_as(made([("new", "x"), ("root", "r", "x"), ("free", "x")]), [W] * 3)
        walker = machine.enter()
        with self.assertRaises(Gone) as caught:
            walker("r")
        self.assertEqual((caught.exception.walker, walker.names(), len(machine)), (0, [], 4))

    def test_its_entering_was_taken_back(self):
        machine = gone_as(made(LINKED), [W] * 5)
        walker = machine.enter()
        walker("r")
        machine.back()
        self.assertEqual((walker.is_in(), walker.names()), (True, []))
        machine.back()
        self.assertEqual((walker.is_in(), walker.names()), (False, []))
        self.refused(walker)
        other = machine.enter()
        other("r")
        self.assertEqual((other.number, other.is_in(), other.names()), (0, True, ["x"]))
        self.assertEqual((walker.is_in(), walker.names(), walker.number), (False, [], 0))
        self.refused(walker)
        self.assertEqual(machine.log(0), [("root", "r", 0)])
        machine.back()
        machine.back()
        machine.step(("enter",))
        for gone in [walker, other]:
            self.assertEqual((gone.is_in(), gone.names()), (False, []))
            self.refused(gone)

    def test_its_leaving_was_taken_back(self):
        machine = gone_as(made(LINKED), [W] * 5)
        walker = machine.enter()
        walker("r")
        walker.leave()
        machine.back()
        self.assertIs(walker.is_in(), True)
        self.assertEqual(walker.follow(0, "f"), 1)

    def test_a_copied_machine_has_other_walkers(self):
        machine = gone_as(made(LINKED), [W] * 5)
        walker = machine.enter()
        copied = machine.copied()
        walker("r")
        copied.step(("leave", 0))
        self.assertEqual((walker.is_in(), copied.held(0), machine.held(0)), (True, [], ["x"]))

    def test_names_belong_to_the_caller(self):
        machine = gone_as(made(LINKED), [W] * 5)
        walker = machine.enter()
        walker("r")
        walker.names().clear()
        self.assertEqual((walker.names(), machine.held(0)), (["x"], ["x"]))
