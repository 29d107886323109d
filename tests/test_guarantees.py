"""[5] [6] [7] [8] [10] [11] on small programs."""
import random
import unittest

from askless.along import rows_along, wrong_run
from askless.errors import Fault, Freed, Gone, NoStep, TooMany
from askless.laters import as_quiet
from askless.logs import Logs
from askless.machine import Machine
from askless.places import all_places, left_out, put_behind, put_in, statement_at
from askless.programs import Program
from askless.statements import bodies
from askless.steps import begin_row, followers, wrongs
from askless.tables import Table, is_closed, is_right
from tests.drawn import hasty, linked, listed, mild, right_programs, some_programs, torn, visible
from tests.model import mild_parts, random_parts
from tests.test_machine import attempt, gone_as

WRONG = (Fault, Freed, Gone)
CASES = [
    (["x", "y"], ["r"], [[("new", "x"), ("root", "r", "x"), ("new", "y"), ("root", "r", "y"), ("quiet",), ("free", "x")]], []),
    (["x"], ["r"], [[("loop", [("new", "x"), ("root", "r", "x"), ("root", "r", ""), ("quiet",), ("free", "x")])]], []),
    (["x"], ["r"], [[("loop", [("new", "x"), ("root", "r", "x"), ("root", "r", ""), ("free", "x")])]], []),
    (["x"], ["r"], [[("new", "x"), ("root", "r", "x"), ("root", "r", ""), ("later", "x")], [("quiet",)]], []),
    (["x"], ["r"], [[("new", "x"), ("root", "r", "x"), ("later", "x"), ("root", "r", "")]], []),
    (["x", "y"], ["r"], [[("new", "x"), ("new", "y"), ("root", "r", "x"), ("ask", "q"), ("point", "x", "f", "y"), ("root", "r", ""),
                          ("await", "q"), ("point", "x", "f", ""), ("quiet",), ("free", "y"), ("free", "x")]], ["f"]),
    (["x", "y"], ["r"], [[("new", "x"), ("new", "y"), ("point", "y", "f", "x"), ("free", "x"), ("quiet",), ("root", "r", "y")]], ["f"]),
    (["x"], ["r"], [[("new", "x"), ("root", "r", "x"), ("ask", "p"), ("root", "r", ""), ("ask", "q"),
                     ("either", [[("await", "p")], [("await", "q")], [("ask", "p"), ("await", "p")]]), ("free", "x")]], []),
    (["x", "y"], ["r", "s"], [[("new", "x"), ("lock", "l"), ("root", "r", "x"), ("root", "r", ""), ("unlock", "l"), ("later", "x")],
                              [("new", "y"), ("lock", "l"), ("root", "s", "y"), ("unlock", "l")]], []),
]


def programs(many):
    for case in CASES:
        yield Program(*case[:3], fields=case[3])
    for seed in range(many):
        for parts in [random_parts(seed), mild_parts(seed)]:
            program = Program(*parts[:3], fields=parts[3])
            try:
                Table(program, most=60)
            except TooMany:
                continue
            yield program


def key_of(machine):
    """What is to come of a machine with at most one walker depends on this, where the row is one."""
    held = machine.held(0) if machine.inside() else []
    last = [read[-1] for read in machine.log(0)[-1:]] if machine.inside() else []
    return (machine.inside(), machine.run().count(("enter",)), sorted(held), held[last[0]:last[0] + 1] if last else [],
            machine.waits, machine.seen(), machine.asks(), machine.laters())


def walked(machines, at_one_cell):
    """The machines to which steps of one walker lead, and whether it can read what is gone.

    If it stands at one cell at a time, it reads roots, or fields of the cell that the read ahead told.
    """
    found, line, gone = {}, list(machines), False
    while line:
        machine = line.pop()
        if repr(key_of(machine)) in found:
            continue
        found[repr(key_of(machine))] = machine
        steps = [("enter",)] if ("enter",) not in machine.run() else []
        if machine.inside():
            steps = [("leave", 0)] + [step for step in machine.reads(0) if step[0] != "mark"]
            if at_one_cell:
                told = machine.log(0)[-1][-1] if machine.log(0) else -1
                steps = [step for step in steps if step[0] != "field" or step[2] == told]
        for step in steps:
            other = machine.copied()
            if attempt(other, step)[0] == "gone":
                gone = True
            else:
                line.append(other)
    return list(found.values()), gone


def stepped(machines, step):
    """The machines behind a step, for those that can do it, and the first way in which it is wrong."""
    found, wrong = [], None
    for machine in machines:
        other = machine.copied()
        how = attempt(other, step)
        if how[0] == "done":
            found.append(other)
        elif how[0] != "none":
            wrong = how
    return found, wrong


class GuaranteesTest(unittest.TestCase):
    def check_one_walker(self, program, at_one_cell):
        """Each step is wrong for one walker exactly if the table says so; a cell is held if it has a rank."""
        line, seen = [(begin_row(program), walked([Machine(program)], at_one_cell)[0])], {begin_row(program)}
        while line:
            row, machines = line.pop()
            held = {cell for machine in machines if machine.inside() for cell in machine.held(0)}
            self.assertEqual(held, {cell for cell, rank in zip(program.cells(), row[5]) if rank >= 0})
            for step, word, name in wrongs(program, row):
                found, wrong = stepped(machines, step)
                if word == "gone":
                    self.assertIs(wrong, None)
                    self.assertIs(walked(found, at_one_cell)[1], True)
                else:
                    self.assertEqual(wrong[0], {"fault": "fault", "held": "freed"}[word])
                    self.assertEqual(wrong[-1], name)
            for step, behind in followers(program, row):
                found, wrong = stepped(machines, step)
                found, gone = walked(found, at_one_cell)
                self.assertEqual((wrong, gone), (None, False))
                if behind not in seen:
                    seen.add(behind)
                    line.append((behind, found))

    def test_one_number_a_cell_and_one_walker(self):
        for program in programs(12):
            self.check_one_walker(program, False)
            self.check_one_walker(program, True)

    def test_many_walkers_are_wrong_only_where_the_table_is(self):
        for number, program in enumerate(programs(60)):
            rng, machine, row = random.Random(number), Machine(program), begin_row(program)
            for turn in range(80):
                steps = machine.steps() + [("enter",)] * (len(machine.inside()) < 4)
                for w in machine.inside():
                    steps += rng.sample(machine.reads(w), 1) + [("leave", w)] * (rng.random() < 0.3)
                step = rng.choice(steps)
                how = attempt(machine, step)
                if step[0] in ("writer", "begin", "end"):
                    bad = {other[0] for other in wrongs(program, row)}
                    if step in bad:
                        break
                    row = dict(followers(program, row))[step]
                self.assertEqual(how[0], "done")
                for w in machine.inside():
                    for cell in machine.held(w):
                        self.assertGreaterEqual(row[5][program.cells().index(cell)], 0)

    def test_closed_lists_show_a_program_right(self):
        for program in programs(60):
            rows = Table(program).rows()
            self.assertIs(is_closed(program, rows), is_right(program))
            if not is_closed(program, rows):
                continue
            for seed in range(3):
                rng, machine = random.Random(seed), Machine(program)
                for turn in range(60):
                    steps = machine.steps() + [("enter",)] * (len(machine.inside()) < 3)
                    for w in machine.inside():
                        steps += machine.reads(w) + [("leave", w)]
                    self.assertEqual(attempt(machine, rng.choice(steps))[0], "done")

    def test_quiets_never_harm(self):
        for program in programs(40):
            if not is_right(program):
                continue
            for place in all_places(program):
                self.assertIs(is_right(put_in(program, place, ("quiet",))), True)
                statement = statement_at(program, place)
                for b in range(len(bodies(statement)) if statement else 0):
                    self.assertIs(is_right(put_behind(program, place, b, ("quiet",))), True)

    def test_quiets_bring_no_new_logs(self):
        fewer = 0
        for program in right_programs(12, 40, (visible, listed, mild, linked)):
            logs = Logs(program)
            for place in all_places(program):
                other = Logs(put_in(program, place, ("quiet",)))
                self.assertIs(other.within(logs), True)
                self.assertIs(other.missing(logs), None)
                fewer += not logs.within(other)
                statement = statement_at(program, place)
                for b in range(len(bodies(statement)) if statement else 0):
                    self.assertIs(Logs(put_behind(program, place, b, ("quiet",))).within(logs), True)
        self.assertGreater(fewer, 0)

    def test_quiets_in_the_place_of_laters_bring_no_new_logs(self):
        many = 0
        for program in right_programs(60, 100, (visible, mild)):
            for place in all_places(program):
                statement = statement_at(program, place)
                if statement is not None and statement[0] == "later":
                    # What was put in ahead stays behind the later: so no body is empty meanwhile.
                    other = put_in(put_in(program, place, ("free", statement[1])), place, ("quiet",))
                    other = left_out(other, (place[0], place[1][:-1] + (place[1][-1] + 2,)))
                    self.assertEqual(other, as_quiet(program, place))
                    self.assertIs(Logs(other).within(Logs(program)), True)
                    many += 1
        self.assertGreater(many, 10)

    def test_a_step_of_a_run_is_wrong_for_some_walkers_if_it_is_so_in_the_table(self):
        """What a wrong run shows for one walker is wrong along its rows, too, and no step ahead of it is."""
        for program in some_programs(25, 100, (listed, hasty, torn, mild)):
            run = wrong_run(program)
            if run is None:
                continue
            deeds = [step for step in run if step[0] in ("writer", "begin", "end")]
            rows = rows_along(program, deeds[:-1])
            self.assertIn(deeds[-1], [wrong[0] for wrong in wrongs(program, rows[-1])])
            self.assertEqual(len(rows), len(deeds))

    def test_cases_are_right_and_wrong(self):
        found = [is_right(Program(*case[:3], fields=case[3])) for case in CASES]
        self.assertEqual(found, [True, True, False, True, False, True, False, False, True])

    def test_names_are_renamed_likewise(self):
        names = {"x": "xa", "y": "yb", "z": "zc", "r": "ra", "s": "sb", "f": "fa", "g": "gb", "p": "pa", "q": "qb",
                 "k": "ka", "l": "lb", "u": "ua", "v": "vb", "w": "wa"}

        def renamed(thing):
            if isinstance(thing, (list, tuple)):
                return type(thing)(renamed(part) for part in thing)
            if isinstance(thing, str) and thing[:1] == "~":
                return "~" + names[thing[1:]]
            return names.get(thing, thing) if isinstance(thing, str) else thing
        for program in programs(40):
            bodies_of = [program.body(writer) for writer in range(len(program))]
            other = Program(renamed(program.cells()), renamed(program.roots()), renamed(bodies_of), fields=renamed(program.fields()))
            one, two = Table(program), Table(other)
            self.assertEqual(renamed(one.rows()), two.rows())
            self.assertEqual(renamed(one.wrongs()), two.wrongs())
            for row in one.rows():
                self.assertEqual(one.cost(row), two.cost(renamed(row)))


class RefusedTest(unittest.TestCase):
    def test_what_a_machine_refuses_is_told_by_its_errors(self):
        program = Program(*CASES[2][:3], fields=CASES[2][3])
        machine = gone_as(program, [("writer", 0, 1), ("writer", 0), ("writer", 0), ("enter",), ("root", 0, "r"), ("writer", 0)])
        for step, error in [(("writer", 0), Freed), (("writer", 0, 1), NoStep)]:
            with self.assertRaises(error):
                machine.step(step)
        self.assertTrue(all(issubclass(error, ValueError) for error in WRONG))
