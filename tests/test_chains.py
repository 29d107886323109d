"""[72] chains."""
import random
import unittest

from askless.chains import longest, missed, stranger, twice
from askless.errors import NoChain, NotRight, TooMany
from askless.logs import Logs, run_of
from askless.machine import Machine
from askless.programs import Program
from askless.tables import Table
from tests.alone import Members, visit
from tests.drawn import linked, listed, mild, parts_of, right_programs, visible
from tests.values import odd_values

W = ("writer", 0)
BODY = [("new", "x"), ("new", "y"), ("new", "z"), ("point", "y", "f", "z"), ("point", "x", "f", "y"), ("root", "r", "x")]
CHAIN = ("r", "f")
FIRST, NONE = ("root", "r", 0), ("root", "r", -1)
HASTY = Program(["x"], ["r"], [[("new", "x"), ("root", "r", "x"), ("free", "x")]], fields=["f"])


def made(*statements, fields=("f",)):
    return Program(["x", "y", "z"], ["r", "s"], [list(statements)], fields=fields)


def next_on(k, n):
    return ("field", k, "f", n)


class ChainsTest(unittest.TestCase):
    def told(self, program, chain=CHAIN):
        return [call(program, chain) for call in (missed, stranger, twice, longest)]

    def test_examples(self):
        cut = Program(["x", "y", "z"], ["r"], [BODY + [("point", "x", "f", "z"), ("point", "y", "f", "")]], fields=["f"])
        self.assertEqual(self.told(cut), [([FIRST, next_on(0, 1), next_on(1, -1)], "z"), None, None, 4])

    def test_nothing_goes_wrong(self):
        self.assertEqual(self.told(made()), [None, None, None, 1])
        self.assertEqual(self.told(made(*BODY)), [None, None, None, 4])
        self.assertEqual(self.told(made(*BODY), ("s", "f")), [None, None, None, 1])
        self.assertEqual(self.told(made(*BODY, ("point", "x", "f", "z"))), [None, None, None, 4])

    def test_what_is_missed(self):
        # z goes ahead of a walker that has gone on: y leads to none, and z is led to by x at last.
        moved = made(*BODY[:3], ("point", "x", "f", "y"), ("point", "z", "f", "x"), ("root", "r", "x"), ("root", "r", "z"))
        self.assertIs(missed(moved, CHAIN), None)
        back = made(*BODY, ("point", "x", "f", "z"), ("point", "z", "f", "y"), ("point", "y", "f", ""))
        self.assertEqual(missed(back, CHAIN), ([FIRST, next_on(0, 1), next_on(1, -1)], "z"))
        # The one that is missed first is told, the lesser one of two.
        both = made(*BODY, ("point", "z", "f", "y"), ("root", "r", "z"), ("point", "x", "f", ""))
        self.assertEqual(missed(both, CHAIN), ([FIRST, next_on(0, -1)], "y"))
        # What was put in meanwhile was no member at all moments.
        grown = made(*BODY[:2], ("root", "r", "x"), ("point", "x", "f", "y"))
        self.assertIs(missed(grown, CHAIN), None)

    def test_the_same_cell_is_missed(self):
        renewed = Program(["x", "y"], ["r"], [[("new", "x"), ("new", "y"), ("point", "x", "f", "y"), ("root", "r", "x"), ("root", "r", "y"),
                                               ("point", "x", "f", ""), ("quiet",), ("free", "x")]], fields=["f"])
        self.assertEqual(self.told(renewed), [([FIRST, next_on(0, -1)], "y"), None, None, 3])

    def test_strangers(self):
        # x is out of reach when it is led to z: who holds it comes to z, which was never a member.
        off = made(*BODY[:3], ("root", "r", "x"), ("root", "r", "y"), ("point", "x", "f", "z"))
        self.assertEqual(self.told(off), [None, ([FIRST, next_on(0, 1)], "z"), None, 3])
        on = made(*BODY[:3], ("root", "r", "x"), ("point", "x", "f", "z"), ("root", "r", "y"))
        self.assertIs(stranger(on, CHAIN), None)
        # It was a member of the other root's chain alone.
        other = made(*BODY[:3], ("root", "s", "z"), ("root", "r", "x"), ("root", "r", "y"), ("point", "x", "f", "z"))
        self.assertEqual(stranger(other, CHAIN), ([FIRST, next_on(0, 1)], "z"))
        self.assertIs(stranger(other, ("s", "f")), None)
        either = Program(["x", "y", "z"], ["r"], [[("new", "x"), ("new", "y"), ("new", "z"), ("root", "r", "x"), ("root", "r", ""),
                                                   ("either", [[("point", "x", "f", "z")], [("point", "x", "f", "y")]])]], fields=["f"])
        self.assertEqual(stranger(either, CHAIN), ([FIRST, next_on(0, 1)], "y"))

    def test_a_cell_made_anew_is_a_stranger(self):
        again = made(("new", "x"), ("new", "y"), ("root", "r", "y"), ("root", "r", ""), ("quiet",), ("free", "y"), ("root", "r", "x"),
                     ("root", "r", ""), ("new", "y"), ("point", "x", "f", "y"))
        self.assertEqual(stranger(again, CHAIN), ([FIRST, next_on(0, 1)], "y"))

    def test_twice(self):
        ring = made(*BODY, ("point", "z", "f", "y"))
        self.assertEqual(self.told(ring), [None, None, ([FIRST, next_on(0, 1), next_on(1, 2), next_on(2, 1)], "y"), None])
        own = made(("new", "x"), ("point", "x", "f", "x"), ("root", "r", "x"), ("point", "x", "f", ""))
        self.assertEqual(self.told(own), [None, None, ([FIRST, next_on(0, 0)], "x"), None])
        turned = made(*BODY[:2], ("point", "x", "f", "y"), ("root", "r", "x"), ("point", "x", "f", ""), ("point", "y", "f", "x"), ("root", "r", "y"))
        self.assertEqual(self.told(turned)[2:], [([FIRST, next_on(0, 1), next_on(1, 0)], "x"), 4])

    def test_walks_of_any_length(self):
        grow = made(*BODY[:2], ("root", "r", "x"), ("loop", [("point", "x", "f", "y"), ("point", "y", "f", ""), ("point", "x", "f", ""),
                                                             ("point", "y", "f", "x")]))
        self.assertEqual(self.told(grow)[2:], [([FIRST, next_on(0, 1), next_on(1, 0)], "x"), None])
        marks = made(("new", "x"), ("root", "r", "x"), ("loop", [("mark", "x", 1), ("mark", "x", 0)]))
        self.assertEqual(self.told(marks), [None, None, None, 2])

    def test_the_least_of_the_walks_to_all_cells(self):
        # A walk along four cells misses a; one along three, by what is done later, misses z.
        later = Program(list("awxyz"), ["r"], [[("new", x) for x in "awxyz"] + [
            ("point", "w", "f", "a"), ("point", "y", "f", "w"), ("point", "x", "f", "y"), ("root", "r", "x"), ("point", "y", "f", "a"),
            ("point", "w", "f", ""), ("point", "y", "f", "z"), ("point", "x", "f", "z"), ("point", "y", "f", "")]], fields=["f"])
        self.assertEqual(missed(later, CHAIN), ([FIRST, next_on(0, 1), next_on(1, -1)], "z"))
        sooner = later.with_body(0, later.body(0)[:11])
        self.assertEqual(missed(sooner, CHAIN), ([FIRST, next_on(0, 1), next_on(1, 2), next_on(2, -1)], "a"))
        off = Program(list("axyz"), ["r"], [[("new", x) for x in "axyz"] + [
            ("point", "x", "f", "y"), ("root", "r", "x"), ("root", "r", ""), ("point", "y", "f", "a"), ("point", "x", "f", "z")]], fields=["f"])
        self.assertEqual(stranger(off, CHAIN), ([FIRST, next_on(0, 1)], "z"))
        self.assertEqual(stranger(off.with_body(0, off.body(0)[:8]), CHAIN), ([FIRST, next_on(0, 1), next_on(1, 2)], "a"))
        # Of two reads that tell a cell again the lesser one is told, though it comes later.
        rings = made(*BODY[:2], ("point", "x", "f", "y"), ("root", "r", "x"), ("point", "y", "f", "y"), ("point", "y", "f", "x"))
        self.assertEqual(twice(rings, CHAIN), ([FIRST, next_on(0, 1), next_on(1, 0)], "x"))

    def test_in_loops_all_is_reached_again(self):
        turn = made(*BODY[:3], ("root", "r", "x"), ("loop", [("point", "x", "f", ""), ("point", "x", "f", "y"), ("point", "x", "f", ""),
                                                             ("point", "y", "f", "z"), ("point", "y", "f", "x"), ("point", "y", "f", "")]))
        self.assertEqual(self.told(turn)[2:], [([FIRST, next_on(0, 1), next_on(1, 0)], "x"), None])
        steps = made(*BODY[:3], ("root", "r", "x"), ("loop", [("point", "x", "f", "y"), ("point", "x", "f", ""), ("point", "y", "f", ""),
                                                              ("root", "r", ""), ("root", "r", "x"), ("point", "y", "f", "z")]))
        self.assertEqual(self.told(steps)[2:], [None, 4])

    def test_another_field(self):
        two = made(*BODY, ("point", "x", "g", "z"), ("point", "z", "g", "x"), fields=["f", "g"])
        self.assertEqual(self.told(two, ("r", "g"))[2:], [([FIRST, ("field", 0, "g", 1), ("field", 1, "g", 0)], "x"), None])
        self.assertEqual(self.told(two)[3], 4)

    def test_errors_and_their_order(self):
        most = len(Table(HASTY))
        for call in [missed, stranger, twice, longest]:
            for program in [HASTY, made(), Program(["x"], ["r"], [[("root", "r", "")] * 40] * 2)]:
                for chain in [("q", "f"), ("r", "g"), ("f", "r"), ("", ""), ("s" if program == HASTY else "q", "f")]:
                    with self.assertRaises(NoChain) as caught:
                        call(program, chain, most=1)
                    self.assertEqual((caught.exception.root, caught.exception.field), chain)
            for limit, error in [(most - 1, TooMany), (most, NotRight), (1000, NotRight)]:
                with self.assertRaises(error) as caught:
                    call(HASTY, CHAIN, most=limit)
                if error is TooMany:
                    self.assertEqual(caught.exception.limit, limit)
            many = len(Table(made(*BODY)))
            call(made(*BODY), CHAIN, most=many)
            with self.assertRaises(TooMany):
                call(made(*BODY), CHAIN, most=many - 1)
            with self.assertRaises(NoChain):
                call(Program(["x"], ["r"], [[]]), CHAIN)

    def test_results_are_new(self):
        ring = made(*BODY, ("point", "z", "f", "y"))
        twice(ring, CHAIN)[0].clear()
        self.assertEqual(len(twice(ring, CHAIN)[0]), 4)

    def check(self, program, chain, depth):
        """By a visit of all walks along a chain of at most so many reads, in all runs."""
        walks = visit(parts_of(program), Members(*chain), depth)
        misses, strangers, again = [], [], []
        for log, states in walks.items():
            for world, begin, cells, (always, ever), steps in states if log else []:
                number = log[-1][-1]
                if number == -1:
                    misses += [(len(log), log, cell) for cell in always if cell not in cells]
                else:
                    strangers += [(len(log), log, cells[number])] * (cells[number] not in ever)
                    again += [(len(log), log, cells[number])] * (number in [read[-1] for read in log[:-1]])
        told = []
        for call, found in [(missed, misses), (stranger, strangers), (twice, again)]:
            wanted = min(found)[1:] if found else None
            told.append(call(program, chain))
            if wanted is None and told[-1] is not None:
                self.assertGreater(len(told[-1][0]), depth)
            else:
                self.assertEqual(told[-1], None if wanted is None else (list(wanted[0]), wanted[1]))
        most = max(len(log) for log in walks)
        self.assertTrue(longest(program, chain) == most if most < depth else longest(program, chain) is None)
        return [thing is not None for thing in told]

    def test_small_programs(self):
        seen = [set(), set(), set()]
        for program in right_programs(60, 60, (linked, visible, listed, mild)):
            for root in program.roots():
                for field in program.fields():
                    for kind, thing in zip(seen, self.check(program, (root, field), 8)):
                        kind.add(thing)
        self.assertEqual(seen, [{True, False}] * 3)

    def check_drawn(self, program, chain, rng):
        """No drawn walk shows otherwise than what is told."""
        root, field = chain
        told = [call(program, chain) for call in (missed, stranger, twice)]
        for turn in range(6):
            machine = Machine(program)
            always, ever, log = set(), set(), []
            for step in range(50):
                steps = machine.steps()
                if not machine.inside():
                    steps = steps + [("enter",)]
                elif not log:
                    steps = steps + [("root", 0, root)]
                elif log[-1][-1] >= 0:
                    steps = steps + [("field", 0, log[-1][-1], field)]
                if not steps or (log and log[-1][-1] < 0):
                    break
                machine.step(rng.choice(steps))
                member, cell = set(), machine.roots()[root]
                while cell not in ("", "?") and cell not in member:
                    member.add(cell)
                    cell = machine.things()[cell][1][field]
                if machine.run()[-1] == ("enter",):
                    always, ever = set(member), set(member)
                always, ever = always & member, ever | member
                if machine.inside() and len(machine.log(0)) > len(log):
                    log = machine.log(0)
                    names, number = machine.held(0), log[-1][-1]
                    shown = [number == -1 and always - set(names), number >= 0 and names[number] not in ever,
                             number >= 0 and number in [read[-1] for read in log[:-1]]]
                    for thing, how in zip(told, shown):
                        if how:
                            self.assertIsNot(thing, None)
                            self.assertLessEqual((len(thing[0]), thing[0]), (len(log), log))
            most = longest(program, chain)
            self.assertTrue(most is None or len(log) <= most)
        for thing in told:
            if thing is not None:
                self.assertIs(thing[0] in Logs(program), True)
                self.assertIsNot(run_of(program, thing[0]), None)
                self.assertIn(thing[1], program.cells())

    def test_drawn_runs_show_nothing_else(self):
        for number, program in enumerate(right_programs(40, 200, (linked, listed, visible))):
            for root in program.roots():
                for field in program.fields()[:1]:
                    self.check_drawn(program, (root, field), random.Random(number))

    def test_odd_chains(self):
        for thing in odd_values():
            with self.assertRaises(NoChain) as caught:
                missed(made(), ("r", thing))
            self.assertIs(caught.exception.field, thing)
