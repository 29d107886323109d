"""[70] [71] moments."""
import random
import unittest

from askless.errors import Broken, NotRight, NoWalker, TooMany
from askless.logs import Logs, is_run_of
from askless.machine import Machine
from askless.moments import fitting, is_entry, never_stood, run_never_stood
from askless.programs import Program
from askless.tables import Table
from tests.alone import Moments, fits, visit
from tests.drawn import linked, listed, mild, parts_of, right_programs, visible
from tests.test_logs import EARLY, FIRST, HASTY, IDLE, NONE, SWAP, TURN
from tests.values import odd_values

W = ("writer", 0)
AB = Program(["x", "y"], ["a", "b"], [[("new", "x"), ("new", "y"), ("root", "a", "x"), ("root", "a", ""), ("root", "b", "y")]])
LINK = Program(["x", "y"], ["r"], [[("new", "x"), ("new", "y"), ("point", "x", "f", "y"), ("root", "r", "x"), ("mark", "y", 1),
                                    ("point", "x", "f", ""), ("mark", "x", 2)]], fields=["f"])


def deeds(run):
    return [step for step in run if step[0] in ("writer", "begin", "end")]


def fitting_by(program, run, walker):
    """The moments that fit, told by a machine that is asked at each of them."""
    machine, scenes, made = Machine(program), [], {cell: 0 for cell in program.cells()}
    for step in [None] + list(run):
        before = machine.things()
        if step is not None:
            machine.step(step)
        for cell, thing in machine.things().items():
            made[cell] += before[cell] is None and thing is not None
        scenes.append((machine.things(), machine.roots(), dict(made)))
    names, log, steps = machine.held(walker), machine.log(walker), list(run)
    first = [at for at, step in enumerate(steps) if step[0] == "enter"][walker] + 1
    reads = [at for at, step in enumerate(steps) if step[0] in ("root", "field", "mark") and step[1] == walker]
    last = reads[-1] if reads else steps.index(("leave", walker)) if ("leave", walker) in steps else len(steps)
    return [time for time in range(first, last + 1) if fits_then(scenes[time], scenes[last], log, names)]


def fits_then(scene, end, log, names):
    things, roots, made = scene
    if not all(things[name] is not None and made[name] == end[2][name] for name in names):
        return False
    for read in log:
        worth = read[-1] if read[0] == "mark" else "" if read[-1] == -1 else names[read[-1]]
        if read[0] == "root":
            found = roots[read[1]]
        else:
            mark, targets = things[names[read[1]]]
            found = mark if read[0] == "mark" else targets[read[2]]
        if found != worth:
            return False
    return True


class EntryTest(unittest.TestCase):
    def test_entries(self):
        good = [[], [NONE], [FIRST, ("mark", 0, 0), ("field", 0, "f", 0), ("field", 0, "g", 1), ("mark", 1, 0), ("root", "s", 1), ("field", 1, "f", -1)]]
        bad = [[NONE, NONE], [NONE, FIRST], [FIRST, ("mark", 0, 0), ("root", "s", 0), ("mark", 0, 0)], [FIRST, ("mark", 0, 0), ("mark", 0, 1)],
               [FIRST, ("field", 0, "f", 0), ("mark", 0, 0), ("field", 0, "f", -1)]]
        for log in good:
            self.assertIs(is_entry(log), True)
        for log in bad:
            self.assertIs(is_entry(log), False)


class FittingTest(unittest.TestCase):
    def test_moments(self):
        run = [W, W, W, W, ("enter",), ("root", 0, "r"), W, ("field", 0, 0, "f"), W, ("mark", 0, 1), W, ("mark", 0, 0), W]
        self.assertEqual(fitting(LINK, run[:8], 0), [5, 6, 7])
        self.assertEqual(fitting(LINK, tuple(run[:10]), 0), [7, 8])
        self.assertEqual(fitting(LINK, run[:12], 0), [])
        self.assertEqual(fitting(LINK, run[:5] + [W, W, ("leave", 0), W], 0), [5, 6, 7])
        self.assertEqual(fitting(LINK, run[:5], 0), [5])
        self.assertEqual(fitting(LINK, [("enter",)] + run[:4], 0), [1, 2, 3, 4, 5])
        self.assertEqual(fitting(LINK, [("enter",), W, ("root", 0, "r"), W, ("leave", 0)], 0), [1, 2])
        self.assertEqual(fitting(LINK, [("enter",), W, W, W, ("root", 0, "r"), W, ("root", 0, "r")], 0), [])
        told = fitting(LINK, run[:8], 0)
        told.clear()
        self.assertEqual(fitting(LINK, run[:8], 0), [5, 6, 7])

    def test_of_several_walkers(self):
        run = [("enter",), W, ("enter",), W, W, W, ("root", 1, "r"), ("enter",), ("root", 0, "r"), W, ("leave", 1), ("mark", 0, 0), ("leave", 2)]
        self.assertEqual(fitting(LINK, run, 0), [6, 7, 8, 9, 10, 11])
        self.assertEqual(fitting(LINK, run, 1), [6])
        self.assertEqual(fitting(LINK, run, 2), [8, 9, 10, 11, 12])

    def test_a_cell_made_anew_is_another_cell(self):
        again = [("new", "x"), ("root", "r", "x"), ("root", "r", ""), ("free", "x"), ("new", "x"), ("root", "r", "x"), ("root", "r", "")]
        program = Program(["x"], ["r"], [again])
        run = [W, W, ("enter",), W, W, W, W, ("root", 0, "r")]
        self.assertEqual(fitting(program, run, 0), [7])
        self.assertEqual(fitting(program, run[:3] + [("root", 0, "r")], 0), [3])
        self.assertEqual(fitting(program, [("enter",)] + [W] * 6 + [("root", 0, "r")], 0), [7])
        root = Program(["x"], ["r", "s"], [again[:2] + again[3:5] + [("root", "s", "x"), ("root", "r", "x")]])
        run = [W, W, ("enter",), W, W, W, ("root", 0, "s"), W, ("root", 0, "r")]
        self.assertEqual(fitting(root, run, 0), [8])

    def test_errors_and_their_order(self):
        run = [W, ("enter",), ("root", 0, "r")]
        for at, bad in [(0, [("writer", 1)]), (3, run + [("root", 1, "r")]), (3, run + [5]), (2, [W, ("enter",), ("mark", 0, 0)])]:
            for walker in [0, 7, None]:
                with self.assertRaises(Broken) as caught:
                    fitting(LINK, bad, walker)
                self.assertEqual(caught.exception.at, at)
        for walker in [1, -1, 10 ** 39, "0", (0,), True, False] + odd_values():
            with self.assertRaises(NoWalker) as caught:
                fitting(LINK, run, walker)
            self.assertIs(caught.exception.walker, walker)
        with self.assertRaises(NoWalker):
            fitting(LINK, [], 0)
        with self.assertRaises(Broken):
            fitting(HASTY, [W, W, ("enter",), ("root", 0, "r"), W], 0)

    def test_drawn_runs(self):
        many = set()
        for number, program in enumerate(right_programs(60, 200, (visible, listed, mild))):
            rng, machine = random.Random(number), Machine(program)
            for turn in range(50):
                steps = machine.steps() + [("enter",)] * (len(machine.inside()) < 3)
                for w in machine.inside():
                    steps += rng.sample(machine.reads(w), 1) + [("leave", w)] * (rng.random() < 0.1)
                machine.step(rng.choice(steps))
            run = machine.run()
            for walker in range(run.count(("enter",))):
                found = fitting(program, run, walker)
                self.assertEqual(found, fitting_by(program, run, walker))
                many.add(min(len(found), 2))
            self.assertEqual(machine.run(), run)
        self.assertEqual(many, {0, 1, 2})


class NeverStoodTest(unittest.TestCase):
    def check(self, program, depth):
        """By a visit of all entries of at most so many reads, in all runs."""
        found = visit(parts_of(program), Moments(), depth)
        bad = {log: [steps for world, begin, cells, kept, steps in states if not any(fits(moment, log, cells) for moment in kept)]
               for log, states in found.items()}
        line = sorted((log for log in bad if bad[log]), key=lambda log: (len(log), log))
        log = never_stood(program)
        if not line:
            self.assertTrue(log is None or len(log) > depth)
            return log is None
        self.assertEqual(log, list(line[0]))
        run = run_never_stood(program)
        self.check_run(program, log, run)
        self.assertEqual(len(deeds(run)), min(bad[line[0]]))
        return False

    def check_run(self, program, log, run):
        self.assertIs(is_entry(log), True)
        self.assertIs(is_run_of(program, log, run), True)
        self.assertEqual(fitting(program, run, 0), [])

    def test_programs(self):
        self.assertEqual(never_stood(AB), [("root", "a", 0), ("root", "b", 1)])
        self.assertEqual(len(deeds(run_never_stood(AB))), 5)
        for program in [SWAP, EARLY, IDLE, TURN]:
            self.assertIs(never_stood(program), None)
            self.assertIs(run_never_stood(program), None)
        self.assertEqual(never_stood(LINK), [FIRST, ("field", 0, "f", 1), ("mark", 0, 2)])
        self.check_run(LINK, never_stood(LINK), run_never_stood(LINK))

    def test_more_than_two_reads_are_needed(self):
        # Of three roots told by marks each two stood at once, though never all three.
        marks = [("mark", "x", 1), ("mark", "y", 1), ("mark", "x", 0), ("mark", "z", 1), ("mark", "x", 1), ("mark", "y", 0)]
        body = [("new", "x"), ("new", "y"), ("new", "z"), ("point", "x", "f", "y"), ("point", "y", "f", "z"), ("root", "r", "x")]
        program = Program(["x", "y", "z"], ["r"], [body + marks], fields=["f"])
        log = never_stood(program)
        self.check_run(program, log, run_never_stood(program))
        self.assertGreater(len(log), 3)

    def test_reads_that_part_with_no_moment(self):
        body = [("new", x) for x in "uvwxyz"] + [("point", "u", "f", "v"), ("point", "u", "g", "w"), ("point", "v", "f", "x"),
                                                 ("point", "v", "g", "y"), ("point", "w", "f", "z"), ("root", "r", "u")]
        program = Program(list("uvwxyz"), ["r"], [body + [("loop", [("mark", "z", 1), ("mark", "z", 0)])]], fields=["f", "g"])
        self.assertIs(never_stood(program), None)
        other = Program(list("uvwxyz"), ["r"], [body + [("loop", [("mark", "z", 1), ("mark", "y", 1), ("mark", "z", 0), ("mark", "y", 0)])]],
                        fields=["f", "g"])
        self.check_run(other, never_stood(other), run_never_stood(other))

    def test_errors(self):
        for call in [never_stood, run_never_stood]:
            many = len(Table(AB))
            call(AB, most=many)
            for program, most, error in [(AB, many - 1, TooMany), (HASTY, 1, TooMany), (HASTY, 1000, NotRight)]:
                with self.assertRaises(error) as caught:
                    call(program, most=most)
                if error is TooMany:
                    self.assertEqual(caught.exception.limit, most)
        found = never_stood(AB)
        found.clear()
        self.assertEqual(len(never_stood(AB)), 2)

    def test_small_programs(self):
        found = [self.check(program, 9) for program in [AB, SWAP, EARLY, IDLE, TURN, LINK]]
        self.assertEqual(found, [False, True, True, True, True, False])
        found = [self.check(program, 3) for program in right_programs(60, 30, (visible, linked, listed, mild))]
        self.assertTrue(any(found) and not all(found))

    def test_programs_that_need_each_way_to_be_kept(self):
        # Programs that were found by drawing many: of two ways to one moment neither can be left out.
        for program, depth in [(visible(53), 3), (visible(230), 3), (visible(241), 2), (visible(284), 2), (mild(1333), 2)]:
            self.assertIs(self.check(program, depth), False)

    def test_the_fewest_steps(self):
        aside = [[("quiet",)] * 2, [("ask", "q")] * 2]
        for writers in [aside + [AB.body(0)], [AB.body(0)] + aside]:
            program = Program(["x", "y"], ["a", "b"], writers)
            self.assertEqual(never_stood(program), never_stood(AB))
            self.assertEqual(len(deeds(run_never_stood(program))), 5)

    def test_drawn_runs_show_nothing_less(self):
        for number, program in enumerate(right_programs(25, 300, (visible, linked, listed, mild))):
            least, rng = never_stood(program), random.Random(number)
            if least is not None:
                self.check_run(program, least, run_never_stood(program))
                self.assertIs(least in Logs(program), True)
            for turn in range(5):
                machine = Machine(program)
                for step in range(40):
                    if machine.inside():
                        log = machine.log(0)
                        if log and fitting(program, machine.run(), 0) == []:
                            self.assertTrue(least is not None and (len(least), least) <= (len(log), log))
                            break
                        done = [read[:-1] for read in log]
                        steps = [read for read in machine.reads(0) if (read[0],) + read[2:] not in done]
                    else:
                        steps = [("enter",)]
                    steps += machine.steps()
                    if not steps:
                        break
                    machine.step(rng.choice(steps))
