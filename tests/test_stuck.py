"""[92] stuck."""
import random
import unittest

from askless.errors import Broken, TooMany
from askless.programs import Program
from askless.runs import played
from askless.steps import begin_row, followers
from askless.stuck import chain, stuck_run, stuck_writers
from askless.tables import Table
from tests.drawn import mild, some_programs
from tests.values import odd_values


def made(*writers):
    return Program(["x"], ["r"], list(writers))


def lock(*names):
    return [("lock", name) for name in names]


def w(*numbers):
    return [("writer", number) for number in numbers]


def taken(*names):
    """All locks are given back in the end."""
    return lock(*names) + [("unlock", name) for name in names]


RING = made(taken("k", "l"), taken("l", "k"))
END = made(lock("l"), lock("l"))


class StuckTest(unittest.TestCase):
    def test_rings(self):
        self.assertEqual(sorted(stuck_run(RING)), w(0, 1))
        self.assertEqual([stuck_writers(RING, w(0, 1)), chain(RING, w(0, 1))], [[0, 1], [0, 1]])
        self.assertEqual([stuck_writers(RING, w(0)), chain(RING, w(0))], [[], []])
        three = made(taken("k", "l"), taken("l", "m"), taken("m", "k"))
        self.assertEqual(sorted(stuck_run(three)), w(0, 1, 2))
        self.assertEqual([stuck_writers(three, w(2, 1, 0)), chain(three, w(2, 1, 0))], [[0, 1, 2], [0, 1, 2]])
        self.assertEqual([stuck_writers(three, w(0, 1)), stuck_writers(three, w(2, 1))], [[], []])
        # Who waits for writers that go round is stuck, too.
        outer = made(lock("k"), lock("k", "l"), lock("l", "k"))
        self.assertEqual([stuck_writers(outer, w(1, 2)), chain(outer, w(1, 2))], [[0, 1, 2], [0, 1, 2]])
        inner = made(lock("k", "m"), lock("k"), lock("m", "k"))
        self.assertEqual([stuck_writers(inner, w(0, 2)), chain(inner, w(0, 2))], [[0, 1, 2], [0, 2]])

    def test_ends(self):
        self.assertEqual(len(stuck_run(END)), 1)
        self.assertEqual([stuck_writers(END, w(0)), chain(END, w(0))], [[1], [1, 0]])
        self.assertEqual([stuck_writers(END, w(1)), chain(END, w(1))], [[0], [0, 1]])
        line = made(lock("k", "l"), lock("k"), lock("l"))
        self.assertEqual([stuck_writers(line, w(0)), stuck_writers(line, w(2)), stuck_writers(line, w(0, 2))], [[], [], [0, 1]])
        self.assertEqual([chain(line, w(0, 2)), chain(line, w(0, 0)), stuck_writers(line, w(0, 0))], [[0, 2], [1, 0], [1, 2]])

    def test_none_is_stuck(self):
        for program in [made([]), made(lock("l"), []), made(lock("l") + [("unlock", "l")], lock("l") + [("unlock", "l")])]:
            self.assertIs(stuck_run(program), None)
            self.assertEqual([stuck_writers(program, []), chain(program, [])], [[], []])
        # Awaits and ends go on when walkers have left; what goes on in a loop may give a lock back.
        wait = made(lock("l") + [("quiet",), ("loop", []), ("unlock", "l")], lock("l") + [("unlock", "l")])
        self.assertIs(stuck_run(wait), None)
        for run in [w(0), w(0, 0), [("enter",)] + w(0, 0), w(0, 0, 0), w(0, 0, 0) + [("writer", 0, 1)]]:
            self.assertEqual([stuck_writers(wait, run), chain(wait, run)], [[], []])

    def test_a_lock_that_the_writer_holds_itself_is_no_wait(self):
        own = made(lock("l", "l"), lock("l"))
        self.assertEqual([stuck_writers(own, w(0)), stuck_run(own)], [[], w(1)])
        self.assertEqual([stuck_writers(own, w(1)), chain(own, w(1))], [[0], [0, 1]])
        one = made(lock("l", "l"))
        self.assertEqual([stuck_writers(one, w(0)), stuck_run(one)], [[], None])

    def test_wrong_steps_are_not_done(self):
        fault = made([("free", "x")] + lock("l"), lock("l"))
        self.assertEqual(stuck_run(fault), w(1) if stuck_writers(fault, w(1)) else None)
        self.assertEqual(stuck_writers(fault, w(1)), [])
        free = made([("new", "x"), ("root", "r", "x"), ("free", "x")] + lock("l"), lock("l"))
        self.assertIs(stuck_run(free), None)
        self.assertEqual(stuck_writers(free, w(0, 0, 0, 0)), [1])
        held = [("enter",), ("root", 0, "r")]
        with self.assertRaises(Broken) as caught:
            stuck_writers(free, w(0, 0) + held + w(0, 0))
        self.assertEqual(caught.exception.at, 4)

    def test_broken(self):
        for call in [stuck_writers, chain]:
            for thing in odd_values() + [("writer", 2), ("leave", 1), ("writer", 0, 0)]:
                with self.assertRaises(Broken) as caught:
                    call(RING, [("enter",), ("writer", 0), thing, ("writer", 1)])
                self.assertEqual(caught.exception.at, 2)
            with self.assertRaises(Broken) as caught:
                call(RING, w(0, 1, 0))
            self.assertEqual(caught.exception.at, 2)
            call(RING, tuple(w(0, 1)))

    def test_limits(self):
        rows = len(Table(RING))
        self.assertEqual(len(stuck_run(RING, most=rows)), 2)
        with self.assertRaises(TooMany) as caught:
            stuck_run(RING, most=rows - 1)
        self.assertEqual(caught.exception.limit, rows - 1)

    def test_drawn_programs(self):
        found = {"none": 0, "stuck": 0}
        for seed in range(250):
            program = drawn(seed)
            costs = cheapest_rows(program)
            stuck = {row: told_stuck(program, row[0], row[3]) for row in costs}
            fewest = min([costs[row] for row in costs if stuck[row]], default=None)
            run = stuck_run(program)
            self.assertEqual(None if run is None else len(run), fewest)
            found["none" if run is None else "stuck"] += 1
            if run is not None:
                self.check_run(program, run)
        self.assertGreater(min(found.values()), 40)

    def check_run(self, program, run):
        self.assertTrue(all(step[0] in ("writer", "begin", "end") for step in run))
        row = begin_row(program)
        for step in run:
            row = dict(followers(program, row))[step]
        stuck = told_stuck(program, row[0], row[3])
        self.assertEqual(stuck_writers(program, run), stuck)
        line, waits = chain(program, run + [("enter",)]), waiting(program, row[0], row[3])
        self.assertEqual(line[0], stuck[0])
        self.assertEqual(line[1:], [waits[i] for i in line[:-1]])
        self.assertEqual(len(set(line)), len(line))
        last = line[-1]
        self.assertTrue(waits.get(last) in line or (last not in waits and row[0][last] == (len(program.body(last)),)))

    def test_machines_that_stand_somewhere(self):
        for number, program in enumerate(some_programs(60, 200, (mild,))):
            rng, run = random.Random(number), []
            for turn in range(12):
                machine = played(program, run)
                steps = machine.steps() + [("enter",)]
                step = rng.choice(steps)
                try:
                    machine.step(step)
                except ValueError:
                    break
                run.append(step)
                places, locks = machine.places(), [-1 if i is None else i for i in machine.locks().values()]
                self.assertEqual(stuck_writers(program, run), told_stuck(program, places, locks))

    def test_results_are_new(self):
        for call in [stuck_writers, chain]:
            one = call(RING, w(0, 1))
            one.clear()
            self.assertEqual(call(RING, w(0, 1)), [0, 1])
        stuck_run(END).clear()
        self.assertEqual(len(stuck_run(END)), 1)


def drawn(seed):
    """A program whose writers take locks in some order, and mostly give them back."""
    rng, bodies = random.Random(seed), []
    for i in range(rng.choice([2, 2, 3])):
        body, held = [], []
        for turn in range(rng.randint(1, 5)):
            if held and rng.random() < 0.5:
                body.append(("unlock", held.pop(rng.randrange(len(held)))))
            elif len(held) < 2:
                name = rng.choice([name for name in "kl" if name not in held])
                held.append(name)
                body.append(("lock", name))
        body += [("unlock", name) for name in held if rng.random() < 0.9]
        if rng.random() < 0.3:
            at = rng.randint(0, len(body))
            body = body[:at] + [("either", [body[at:], [("quiet",)]])] if rng.random() < 0.5 else [("loop", body)]
        bodies.append(body)
    return made(*bodies)


def cheapest_rows(program):
    found, line = {begin_row(program): 0}, [begin_row(program)]
    for row in line:
        for step, behind in followers(program, row):
            if behind not in found:
                found[behind] = found[row] + 1
                line.append(behind)
    return found


def waiting(program, places, locks):
    """The dict from the writers that wait to those for which they do."""
    found = {}
    for i, address in enumerate(places):
        statement = program.spots[i][address][0]
        if statement and statement[0] == "lock":
            holder = locks[program.locks().index(statement[1])]
            if holder not in (-1, i):
                found[i] = holder
    return found


def told_stuck(program, places, locks):
    """The writers from which on all waiting ends with one at its end, or goes round."""
    waits, found = waiting(program, places, locks), []
    for i in waits:
        k = i
        for turn in range(9):
            k = waits.get(k, k)
        if k in waits or places[k] == (len(program.body(k)),):
            found.append(i)
    return found
