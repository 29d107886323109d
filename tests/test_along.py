"""[43] along."""
import random
import unittest

from askless.along import lean, rows_along, run_to, wrong_run
from askless.errors import Broken, Fault, Freed, Gone, TooMany
from askless.machine import Machine
from askless.programs import Program
from askless.runs import is_wrong_run, played, wrong_of
from askless.steps import begin_row, followers
from askless.tables import Table
from tests.drawn import hasty, listed, mild, parts_of, some_programs, torn
from tests.model import Visited, World, random_parts
from tests.values import odd_values

W = ("writer", 0)
SWAP = Program(["x", "y"], ["r"], [[("new", "x"), ("root", "r", "x"), ("new", "y"), ("root", "r", "y"), ("quiet",), ("free", "x")]])
HASTY = Program(["x"], ["r"], [[("new", "x"), ("root", "r", "x"), ("root", "r", ""), ("free", "x")]])
CHAIN = [("new", "x"), ("new", "y"), ("new", "z"), ("point", "x", "f", "y"), ("point", "y", "f", "z"), ("root", "r", "x")]
GONE = Program(["x", "y", "z"], ["r"], [CHAIN[:3] + [("point", "y", "f", "z"), ("point", "x", "f", "y"), ("free", "z"),
                                                     ("root", "r", "x")]], fields=["f"])


def rand(seed):
    parts = random_parts(seed)
    return Program(*parts[:3], fields=parts[3])


def deeds(run):
    return [step for step in run if step[0] in ("writer", "begin", "end")]


def reads(run):
    return [at for at, step in enumerate(run) if step[0] in ("root", "field", "mark")]


def wrong_by(machine, step):
    """How a step is wrong that a machine can do, or () if it is done."""
    try:
        machine.step(step)
    except Fault as fault:
        return ("fault", fault.writer, fault.address, fault.name)
    except Freed as freed:
        return ("freed", freed.cell)
    except Gone as gone:
        return ("gone", gone.walker)
    return ()


def drawn_run(program, rng, turns):
    """A random run, and how it is wrong: () if it is not."""
    machine = Machine(program)
    for turn in range(turns):
        steps = machine.steps() * 2 + [("enter",)] * (len(machine.inside()) < 4)
        for w in machine.inside():
            steps += machine.reads(w) + [("leave", w)] * (rng.random() < 0.2)
        step = rng.choice(steps)
        how = wrong_by(machine, step)
        if how != ():
            return machine.run() + [step], how
    return machine.run(), ()


class RowsAlongTest(unittest.TestCase):
    def broken(self, call, *args):
        with self.assertRaises(Broken) as caught:
            call(*args)
        return caught.exception.at

    def test_rows(self):
        self.assertEqual(rows_along(SWAP, []), [begin_row(SWAP)])
        self.assertEqual(rows_along(SWAP, ()), [begin_row(SWAP)])
        run = [("enter",), W, ("root", 0, "r"), W, ("root", 0, "r"), ("mark", 0, 0)]
        row = begin_row(SWAP)
        rows = [row]
        for step in deeds(run):
            row = dict(followers(SWAP, row))[step]
            rows.append(row)
        for thing in [run, tuple(run)]:
            found = rows_along(SWAP, thing)
            self.assertEqual(found, rows)
            found.clear()
            self.assertEqual(rows_along(SWAP, thing), rows)
        self.assertEqual(rows_along(SWAP, [("enter",), ("leave", 0)]), [begin_row(SWAP)])

    def test_broken_where_a_step_cannot_be_done(self):
        for at, run in [(0, [("writer", 1)]), (1, [W, ("root", 0, "r")]), (2, [W, ("enter",), ("field", 0, 0, "f"), W]),
                        (1, [("enter",), 5]), (7, [W] * 9), (6, [W] * 4 + [("enter",), W, W]), (0, [None])]:
            self.assertEqual(self.broken(rows_along, SWAP, run), at)
        self.assertEqual(len(rows_along(SWAP, [W] * 5 + [("enter",), W, W])), 8)

    def test_broken_where_a_step_is_wrong_though_nobody_is_in(self):
        self.assertEqual(played(HASTY, [W] * 4).run(), [W] * 4)
        self.assertEqual(self.broken(rows_along, HASTY, [W] * 4), 3)
        self.assertEqual(self.broken(rows_along, HASTY, [("enter",), W, W, W, ("leave", 0), W]), 5)
        self.assertEqual(self.broken(rows_along, GONE, [W] * 7), 6)
        self.assertEqual(self.broken(rows_along, Program(["x"], ["r"], [[("free", "x")]]), [W]), 0)

    def test_any_run(self):
        for number, program in enumerate(some_programs(40, 100, (mild, listed))):
            run, how = drawn_run(program, random.Random(number), 30)
            row, rows, bad = begin_row(program), [begin_row(program)], None
            for at, step in enumerate(run[:len(run) - (how != ())]):
                if step in deeds([step]) and bad is None:
                    behind = dict(followers(program, row))
                    if step not in behind:
                        bad = at
                    else:
                        row = behind[step]
                        rows.append(row)
            if bad is None and how == ():
                self.assertEqual(rows_along(program, run), rows)
            else:
                self.assertEqual(self.broken(rows_along, program, run), len(run) - 1 if bad is None else bad)

    def test_what_a_walker_holds_has_a_rank(self):
        seen = set()
        for number, program in enumerate(some_programs(40, 150, (mild, listed))):
            run, how = drawn_run(program, random.Random(number), 40)
            run = run[:len(run) - (how != ())]
            try:
                rows = rows_along(program, run)
            except Broken:
                continue
            cells, roots, bodies, fields = parts_of(program)
            visited = Visited(World(cells, roots, fields, bodies))
            for step in run:
                self.assertEqual(visited.do(step)[0], "done")
            for walker in visited.walkers:
                ahead = sum(asking <= walker["begin"] for name, asking in visited.world.asked)
                for cell in walker["cells"] if walker["in"] else []:
                    rank = rows[-1][5][cells.index(cell)]
                    self.assertGreaterEqual(rank, ahead)
                    seen.add((ahead > 0, rank > ahead))
        self.assertTrue({(False, True), (True, False)} <= seen)


class RunToTest(unittest.TestCase):
    def check(self, program, row):
        """A run to a row has the fewest steps, and a walker for each rank."""
        run = run_to(program, row)
        table = Table(program)
        self.assertEqual(len(deeds(run)), table.cost(row))
        self.assertEqual(rows_along(program, run)[-1], row)
        cells, roots, bodies, fields = parts_of(program)
        visited = Visited(World(cells, roots, fields, bodies))
        for step in run:
            self.assertEqual(visited.do(step)[0], "done")
        found = set()
        for walker in visited.walkers:
            if walker["in"]:
                behind = [asking <= walker["begin"] for name, asking in visited.world.asked]
                self.assertEqual(behind, sorted(behind, reverse=True))
                found.update((cell, sum(behind)) for cell in walker["cells"])
        wanted = {(cell, rank) for cell, rank in zip(cells, row[5]) if rank >= 0}
        self.assertEqual(len([walker for walker in visited.walkers if walker["in"]]), len(wanted))
        self.assertEqual(wanted - found, set())

    def test_rows_of_small_programs(self):
        for program in [SWAP, HASTY, GONE, Program(["x"], ["r"], [[]])]:
            for row in Table(program).rows():
                self.check(program, row)
        asks = Program(["x", "y"], ["r"], [[("new", "x"), ("new", "y"), ("point", "x", "f", "y"), ("root", "r", "x"), ("ask", "p"),
                                            ("point", "x", "f", ""), ("ask", "q"), ("root", "r", ""), ("ask", "p"), ("await", "q"),
                                            ("await", "p"), ("free", "x"), ("free", "y")]], fields=["f"])
        for row in Table(asks).rows():
            self.check(asks, row)

    def test_rows_of_drawn_programs(self):
        for number, program in enumerate(some_programs(25, 120, (mild, listed, hasty, torn))):
            rows = Table(program).rows()
            for row in random.Random(number).sample(rows, min(8, len(rows))):
                self.check(program, row)

    def test_no_such_row(self):
        self.assertEqual(run_to(SWAP, begin_row(SWAP)), [])
        self.assertIs(run_to(SWAP, begin_row(HASTY)), None)
        lower = begin_row(SWAP)[:5] + ((0, -1),) + begin_row(SWAP)[6:]
        self.assertIs(run_to(SWAP, lower), None)
        for thing in odd_values():
            self.assertIs(run_to(SWAP, thing), None)

    def test_limits(self):
        many = len(Table(SWAP))
        self.assertEqual(run_to(SWAP, begin_row(SWAP), most=many), [])
        for call in [lambda most: run_to(SWAP, begin_row(SWAP), most=most), lambda most: wrong_run(SWAP, most=most)]:
            with self.assertRaises(TooMany) as caught:
                call(many - 1)
            self.assertEqual(caught.exception.limit, many - 1)


class WrongRunTest(unittest.TestCase):
    def check(self, program):
        table, run = Table(program), wrong_run(program)
        if table.is_safe:
            self.assertIs(run, None)
            return "right"
        self.assertIs(is_wrong_run(program, run), True)
        word = wrong_of(program, run)[0]
        self.assertEqual(len(deeds(run)), table.fewest)
        self.assertEqual(run.count(("enter",)), 0 if word == "fault" else 1)
        self.assertEqual([step for step in run if step[0] in ("leave", "mark")], [])
        line = [run[at] for at in reads(run)]
        # Each read but the first one is of the cell that the one ahead told: all of them are new to the walker.
        self.assertEqual([step[2] for step in line[1:]], list(range(len(line) - 1)))
        self.assertEqual([step[0] for step in line], ["root", "field", "field", "field"][:len(line)])
        words = {wrong[2] for wrong in table.wrongs() if table.cost(wrong[0]) + 1 == table.fewest}
        self.assertIn({"fault": "fault", "freed": "held", "gone": "gone"}[word], words)
        if word == "gone":
            self.assertEqual(len(deeds(run[:-1])), table.fewest)
            self.assertNotIn(run[-1], deeds(run))
        return word

    def test_each_word(self):
        self.assertIs(wrong_run(SWAP), None)
        self.assertEqual(wrong_run(Program(["x"], ["r"], [[("free", "x")]])), [W])
        self.assertEqual(self.check(HASTY), "freed")
        self.assertEqual(wrong_run(HASTY)[-1], W)
        self.assertEqual(self.check(GONE), "gone")
        self.assertEqual(wrong_run(GONE)[-3:], [("root", 0, "r"), ("field", 0, 0, "f"), ("field", 0, 1, "f")])
        free_last = Program(["x", "y", "z"], ["r"], [CHAIN + [("root", "r", ""), ("free", "z")]], fields=["f"])
        self.assertEqual(self.check(free_last), "freed")
        self.assertEqual(len(reads(wrong_run(free_last))), 3)
        begun = Program(["x"], ["r"], [[("new", "x"), ("root", "r", "x"), ("later", "x")]])
        self.assertEqual(wrong_run(begun)[-1], ("end", "x"))
        self.assertEqual(self.check(begun), "freed")

    def test_drawn_programs(self):
        words = [self.check(program) for program in some_programs(60, 150, (mild, listed, hasty, torn, rand))]
        for word in ["right", "fault", "freed", "gone"]:
            self.assertIn(word, words)


class LeanTest(unittest.TestCase):
    def check(self, program, run):
        how, found = wrong_of(program, run), lean(program, run)
        self.assertEqual(deeds(found), deeds(run))
        again = wrong_of(program, found)
        self.assertEqual(again, ("gone", 0) if how[0] == "gone" else how)
        if how[0] == "fault":
            self.assertEqual(found, deeds(run))
            return how[0]
        self.assertEqual([step for step in found if step[0] == "leave"], [])
        self.assertEqual(found.count(("enter",)), 1)
        for at in reads(found):
            less = found[:at] + found[at + 1:]
            self.assertFalse(is_wrong_run(program, less) and wrong_of(program, less) == again)
        self.check_where(run, found)
        return how[0]

    def check_where(self, run, found):
        """The walker enters and reads where one of the run did."""
        def story(steps, walker):
            enters, told, line = 0, 0, []
            for step in steps:
                if step[0] == "enter":
                    line += [(told, "enter")] if enters == walker else []
                    enters += 1
                elif step in deeds([step]):
                    told += 1
                elif step[1] == walker and step[0] != "leave":
                    line.append((told, step[0], step[-1]))
            return line
        mine = story(found, 0)
        lines = [story(run, walker) for walker in range(run.count(("enter",)))]
        self.assertTrue(any(mine[0] == line[0] and all(part in line for part in mine) for line in lines))

    def test_each_word(self):
        run = [("enter",), W, ("leave", 0), W, ("enter",), ("enter",), ("root", 1, "r"), ("root", 2, "r"), ("mark", 2, 0),
               ("root", 2, "r"), W, ("root", 1, "r"), W]
        self.assertEqual(lean(HASTY, run)[2:], [("enter",), ("root", 0, "r"), W, W])
        self.assertEqual(self.check(HASTY, run), "freed")
        self.assertEqual(lean(HASTY, tuple(run)), lean(HASTY, run))
        fault = Program(["x"], ["r"], [[("new", "x"), ("new", "x")]])
        self.assertEqual(lean(fault, [("enter",), W, ("root", 0, "r"), ("leave", 0), W]), [W, W])
        self.assertEqual(lean(fault, (W, ("enter",), W)), [W, W])
        gone = [W] * 7 + [("enter",), ("enter",), ("root", 1, "r"), ("root", 1, "r"), ("mark", 1, 0), ("field", 1, 0, "f"),
                          ("field", 1, 1, "f")]
        self.assertEqual(lean(GONE, gone), [W] * 7 + [("enter",), ("root", 0, "r"), ("field", 0, 0, "f"), ("field", 0, 1, "f")])
        marked = Program(["x", "y"], ["r"], [[("new", "x"), ("new", "y"), ("mark", "x", 1), ("point", "x", "f", "y"), ("root", "r", "x"),
                                              ("free", "y")]], fields=["f"])
        reads_first = [W] * 5 + [("enter",), ("root", 0, "r"), ("mark", 0, 0), ("root", 0, "r"), ("field", 0, 0, "f"), ("field", 0, 1, "f"),
                                 ("mark", 0, 1), ("field", 0, 0, "f"), W]
        self.assertEqual(lean(marked, reads_first), [W] * 5 + [("enter",), ("root", 0, "r"), ("field", 0, 0, "f"), W])
        at_root = [W] * 2 + [("enter",), W, ("leave", 0), W, ("enter",), ("root", 1, "r")]
        kept = Program(["x"], ["r"], [[("new", "x"), ("root", "r", "x"), ("mark", "x", 1), ("free", "x")]])
        self.assertEqual(lean(kept, at_root), [W] * 4 + [("enter",), ("root", 0, "r")])

    def test_drawn_runs(self):
        words = []
        for number, program in enumerate(some_programs(60, 150, (listed, hasty, torn, rand))):
            for turn in range(6):
                run, how = drawn_run(program, random.Random(number * 10 + turn), 50)
                if how != ():
                    words.append(self.check(program, run))
        for word in ["fault", "freed", "gone"]:
            self.assertIn(word, words)

    def test_other_runs(self):
        for at, run in [(0, []), (1, [W]), (4, [W] * 4), (0, [("writer", 1)]), (1, [W, ("leave", 0), W]), (0, [None])]:
            for call in [lean, wrong_of]:
                with self.assertRaises(Broken) as caught:
                    call(HASTY, run)
                self.assertEqual(caught.exception.at, at)
