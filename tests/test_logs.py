"""[61] [62] logs."""
import random
import unittest

from askless.errors import NotRight, TooMany
from askless.logs import Logs, is_run_of, run_of
from askless.machine import Machine
from askless.programs import Program
from askless.reads import is_log
from askless.tables import Table
from tests.alone import Keeper, visit
from tests.drawn import listed, mild, parts_of, right_programs, visible
from tests.values import odd_values

W = ("writer", 0)
SWAP = Program(["x", "y"], ["r"], [[("new", "x"), ("mark", "x", 1), ("root", "r", "x"), ("new", "y"), ("mark", "y", 2), ("root", "r", "y"),
                                    ("quiet",), ("free", "x")]])
EARLY = Program(["x"], ["r"], [[("new", "x"), ("root", "r", "x"), ("mark", "x", 1)]])
IDLE = Program(["x"], ["r"], [[]])
TURN = Program(["x"], ["r"], [[("loop", [("new", "x"), ("root", "r", "x"), ("root", "r", ""), ("quiet",), ("free", "x")])]])
HASTY = Program(["x"], ["r"], [[("new", "x"), ("root", "r", "x"), ("free", "x")]])
NONE, FIRST = ("root", "r", -1), ("root", "r", 0)


def deeds(run):
    return [step for step in run if step[0] in ("writer", "begin", "end")]


def by_length(logs):
    return sorted((list(log) for log in logs), key=lambda log: (len(log), log))


def drawn_log(program, rng, turns):
    """The log of a walker in a random run, and the run up to its last read."""
    machine = Machine(program)
    for turn in range(turns):
        steps = machine.steps() + ([] if machine.inside() else [("enter",)])
        if machine.inside():
            steps += machine.reads(0)
        machine.step(rng.choice(steps))
    return (machine.log(0), machine.run()) if machine.inside() else ([], machine.run() + [("enter",)])


class LogsCase(unittest.TestCase):
    def check_all(self, program, longest):
        """Logs, what comes next and the fewest steps, by a visit of all runs."""
        found, logs = visit(parts_of(program), Keeper(), longest), Logs(program)
        line = by_length(found)
        self.assertEqual([logs.count(many) for many in range(longest + 1)],
                         [len([log for log in line if len(log) == many]) for many in range(longest + 1)])
        self.assertEqual(logs.first(min(len(line), 1000)), line[:1000])
        for log in line:
            self.assertIs(log in logs, True)
            if len(log) < longest:
                self.assertEqual(logs.coming(log), [other[-1] for other in line if other and other[:-1] == log])
            run = run_of(program, log)
            self.assertIs(is_run_of(program, log, run), True)
            self.assertEqual(len(deeds(run)), min(state[4] for state in found[tuple(log)]))


class LogsTest(LogsCase):
    def test_examples(self):
        logs = Logs(SWAP)
        self.assertEqual([logs.count(1), logs.count(2), logs.coming([FIRST])],
                         [2, 6, [("mark", 0, 1), ("mark", 0, 2), FIRST, ("root", "r", 1)]])

    def test_programs_of_which_all_is_known(self):
        idle = Logs(IDLE)
        self.assertEqual([len(idle), [idle.count(many) for many in (0, 1, 20)], idle.coming([])], [1, [1, 1, 1], [NONE]])
        self.assertEqual(idle.first(1000), [[NONE] * many for many in range(1000)])
        self.assertIs([NONE] * 100000 in idle, True)
        # Ahead of x, behind the root led to it, behind the mark as well.
        early = Logs(EARLY)
        self.assertEqual(early.first(6), [[], [NONE], [FIRST], [NONE, NONE], [NONE, FIRST], [FIRST, ("mark", 0, 0)]])
        self.assertEqual([early.coming(log) for log in [[], [FIRST], [FIRST, ("mark", 0, 0)], [NONE, FIRST, ("mark", 0, 1)]]],
                         [[NONE, FIRST], [("mark", 0, 0), ("mark", 0, 1), FIRST], [("mark", 0, 0), ("mark", 0, 1), FIRST],
                          [("mark", 0, 1), FIRST]])
        self.assertEqual(len(early), 3)
        # Either nobody has come, or just x, which is never met again under another number.
        turn = Logs(TURN)
        self.assertEqual(len(turn), 3)
        self.assertIs([FIRST, NONE, FIRST] in turn, False)
        self.assertIs([NONE, NONE, FIRST, FIRST, NONE, NONE] in turn, True)

    def test_logs_in_loops(self):
        marks = [("mark", "x", 1), ("mark", "x", 2), ("mark", "x", 3)]
        program = Program(["x"], ["r"], [[("new", "x"), ("root", "r", "x"), ("loop", marks)]])
        logs = Logs(program)
        told = [("mark", 0, k) for k in range(4)]
        # Once the mark 0 is gone it never comes back; all others follow one another for ever.
        self.assertEqual(logs.coming([FIRST, told[0]]), told + [FIRST])
        for k in (1, 2, 3):
            self.assertEqual(logs.coming([FIRST, told[k]]), told[1:] + [FIRST])
        self.assertIs([FIRST, told[0]] + told[:0:-1] * 50 in logs, True)
        self.assertIs([FIRST, told[3], told[0]] in logs, False)
        self.assertEqual(len(logs), 3)
        for log, many in [([FIRST, told[3], told[2]], 9), ([FIRST, told[3], told[1]], 8), ([FIRST, told[2], told[1], told[3]], 10)]:
            run = run_of(program, log)
            self.assertIs(is_run_of(program, log, run), True)
            self.assertEqual(len(deeds(run)), many)

    def test_counts(self):
        """Of EARLY it is known how many logs there are: nobody has come, or x without its mark, or x with it."""
        counts, logs = [1, 1, 1], Logs(EARLY)
        for many in range(21):
            self.assertEqual(logs.count(many), counts[0])
            none, bare, marked = counts
            counts = [none + bare, 2 * bare + marked, 2 * marked]
        self.assertEqual([Logs(Program(["x"], ["r", "s"], [[]])).count(many) for many in (0, 1, 20)], [1, 2, 2 ** 20])

    def test_two_names_for_one_number(self):
        both = Program(["x", "y"], ["r"], [[("new", "x"), ("new", "y"), ("mark", "y", 2), ("either", [[("root", "r", "x")], [("root", "r", "y")]])]])
        logs = Logs(both)
        self.assertEqual(logs.coming([FIRST]), [("mark", 0, 0), ("mark", 0, 2), FIRST])
        self.assertEqual(logs.coming([FIRST, ("mark", 0, 2)]), [("mark", 0, 2), FIRST])
        self.assertEqual(len(logs), 4)

    def test_quiets_wait_for_the_walker_alone(self):
        asks = Program(["x"], ["r"], [[("new", "x"), ("ask", "q"), ("root", "r", "x"), ("await", "q"), ("mark", "x", 1), ("quiet",), ("mark", "x", 2)]])
        logs = Logs(asks)
        self.assertIs([NONE, FIRST, ("mark", 0, 1)] in logs, True)
        self.assertIs([FIRST, ("mark", 0, 1)] in logs, True)
        self.assertIs([FIRST, ("mark", 0, 0), ("mark", 0, 2)] in logs, False)
        self.assertIs([FIRST, ("mark", 0, 1), ("mark", 0, 2)] in logs, True)
        late = Program(["x"], ["r"], [[("root", "r", ""), ("new", "x"), ("root", "r", "x"), ("quiet",), ("mark", "x", 1)]])
        self.assertIs([NONE, FIRST, ("mark", 0, 1)] in Logs(late), False)
        self.assertIs([FIRST, ("mark", 0, 0), ("mark", 0, 1)] in Logs(late), True)

    def test_any_value(self):
        logs = Logs(SWAP)
        good = [FIRST, ("mark", 0, 1), FIRST]
        self.assertIs(good in logs, True)
        others = [tuple(good), [list(read) for read in good], [("root", "r", False)], [FIRST, ("mark", False, 1)], [FIRST, ("mark", 0, True)],
                  good + [("root", "s", 0)], good + [("field", 0, "f", 0)], [("root", "r", 1)], good + [("mark", 1, 1)], "", None]
        for thing in others + odd_values():
            self.assertIs(thing in logs, isinstance(thing, list) and len(thing) == 0, thing)
        for thing in odd_values():
            self.assertIs([thing] in logs, False)
        self.assertIs([FIRST] * 1000000 in logs, True)
        self.assertIs([FIRST] * 999999 + [NONE] in logs, False)

    def test_coming_behind_other_logs(self):
        logs = Logs(SWAP)
        for log in [[FIRST, NONE], [("root", "s", 0)], [FIRST, ("mark", 0, 3)], [FIRST, ("field", 0, "f", 0)]]:
            self.assertTrue(is_log(log))
            self.assertEqual(logs.coming(log), [])
        self.assertEqual(logs.coming([]), [NONE, FIRST])
        logs.coming([]).clear()
        self.assertEqual(logs.coming([]), [NONE, FIRST])

    def test_first_and_count(self):
        logs = Logs(SWAP)
        found = logs.first(1000)
        self.assertEqual(len(found), 1000)
        self.assertEqual(found, by_length(found))
        self.assertEqual([logs.count(many) for many in range(4)], [len([log for log in found if len(log) == many]) for many in range(4)])
        self.assertEqual([logs.first(0), logs.first(1), logs.first(2)], [[], [[]], [[], [NONE]]])
        found[5].clear()
        found.clear()
        self.assertEqual(len(logs.first(1000)), 1000)
        self.assertEqual(logs.first(6)[5], by_length(logs.first(6))[5])
        self.assertEqual(len({id(log) for log in logs.first(1000)}), 1000)
        # There are more than any list could hold.
        wide = Logs(Program(["x"], ["r", "s"], [[("new", "x"), ("loop", [("root", "r", "x"), ("root", "s", ""), ("root", "s", "x"), ("root", "r", "")])]]))
        self.assertGreater(wide.count(20), 4 ** 20 // 2)
        self.assertEqual(len(wide.first(1000)), 1000)

    def test_errors(self):
        many = len(Table(SWAP))
        for call in [lambda program, most: Logs(program, most=most), lambda program, most: run_of(program, [FIRST], most=most)]:
            call(SWAP, many)
            for program, most in [(SWAP, many - 1), (HASTY, len(Table(HASTY)) - 1), (SWAP, 1)]:
                with self.assertRaises(TooMany) as caught:
                    call(program, most)
                self.assertEqual(caught.exception.limit, most)
            with self.assertRaises(NotRight):
                call(HASTY, len(Table(HASTY)))
        with self.assertRaises(NotRight):
            Logs(HASTY)
        wide = Program(["x"], ["r"], [[("root", "r", "")] * 40] * 2)
        with self.assertRaises(TooMany) as caught:
            Logs(wide)
        self.assertEqual(caught.exception.limit, 1000)
        self.assertEqual(len(Logs(wide, most=1681)), 1)

    def test_equal_missing_within(self):
        again = SWAP.with_body(0, SWAP.body(0)[:6])
        other = SWAP.with_body(0, [("new", "x"), ("mark", "x", 1), ("root", "r", "x"), ("new", "y"), ("mark", "y", 3), ("root", "r", "y")])
        renamed = Program(["a", "b", "c"], ["r"], [[("new", "c"), ("mark", "c", 1), ("quiet",), ("root", "r", "c"), ("new", "a"), ("mark", "a", 2),
                                                    ("root", "r", "a")], []])
        self.assertEqual(Logs(SWAP), Logs(again))
        self.assertEqual(Logs(SWAP), Logs(renamed))
        self.assertNotEqual(Logs(SWAP), Logs(other))
        self.assertIs(Logs(SWAP).missing(Logs(renamed)), None)
        self.assertIs(Logs(SWAP).within(Logs(renamed)), True)
        self.assertEqual(Logs(SWAP).missing(Logs(other)), [FIRST, ("mark", 0, 2)])
        self.assertEqual(Logs(other).missing(Logs(SWAP)), [FIRST, ("mark", 0, 3)])
        self.assertIs(Logs(other).within(Logs(SWAP)), False)
        self.assertIs(Logs(IDLE).within(Logs(SWAP)), True)
        self.assertEqual(Logs(SWAP).missing(Logs(IDLE)), [FIRST])
        two = Logs(Program(["x"], ["r", "s"], [[]]))
        self.assertEqual(two.missing(Logs(IDLE)), [("root", "s", -1)])
        self.assertIs(Logs(IDLE).within(two), True)
        for thing in odd_values() + [SWAP, Table(SWAP)]:
            self.assertIs(Logs(SWAP) == thing, False)

    def test_arguments_stay(self):
        logs, log = Logs(SWAP), [FIRST, ("mark", 0, 1)]
        for call in [logs.coming, logs.__contains__, lambda thing: run_of(SWAP, thing), lambda thing: is_run_of(SWAP, thing, [W])]:
            call(log)
            self.assertEqual(log, [FIRST, ("mark", 0, 1)])

    def test_all_logs_of_small_programs(self):
        for program in [SWAP, EARLY, IDLE, TURN]:
            self.check_all(program, 4)
        for program in right_programs(40, 30, (visible, listed, mild)):
            self.check_all(program, 2)

    def test_classes_of_logs(self):
        """Logs that have the same logs behind them are one, up to a length that is enough here."""
        def behind(logs, log, depth):
            return tuple((read, behind(logs, log + [read], depth - 1)) for read in logs.coming(log)) if depth else ()
        for program in [SWAP, EARLY, IDLE, TURN] + right_programs(14, 12, (visible, listed)):
            logs = Logs(program)
            if len(logs) <= 8 and logs.count(3) < 60:
                reached = [log for log in logs.first(1000) if len(log) <= 4]
                self.assertEqual(len({behind(logs, log, 3) for log in reached}), len(logs))

    def test_drawn_runs(self):
        for number, program in enumerate(right_programs(40, 300, (visible, listed))):
            logs = Logs(program)
            for turn in range(4):
                log, run = drawn_log(program, random.Random(number * 7 + turn), 60)
                self.assertIs(log in logs, True)
                self.assertTrue(is_run_of(program, log, run))
                for many in range(len(log)):
                    self.assertIn(log[many], logs.coming(log[:many]))
                found = run_of(program, log)
                self.assertIs(is_run_of(program, log, found), True)
                self.assertLessEqual(len(deeds(found)), len(deeds(run)))

    def test_drawn_logs_have_runs(self):
        for number, program in enumerate(right_programs(30, 200, (visible, listed))):
            logs, rng = Logs(program), random.Random(number)
            log = []
            for turn in range(12):
                log = log + [rng.choice(logs.coming(log))]
            self.assertIs(is_run_of(program, log, run_of(program, log)), True)
            self.assertIs(log in logs, True)


class RunOfTest(LogsCase):
    def test_runs(self):
        self.assertEqual(run_of(SWAP, []), [("enter",)])
        self.assertEqual(run_of(SWAP, [NONE]), [("enter",), ("root", 0, "r")])
        run = run_of(SWAP, [FIRST, ("root", "r", 1), ("mark", 0, 1)])
        self.assertIs(is_run_of(SWAP, [FIRST, ("root", "r", 1), ("mark", 0, 1)], run), True)
        self.assertEqual(len(deeds(run)), 6)
        self.assertEqual(run_of(IDLE, [NONE] * 999), [("enter",)] + [("root", 0, "r")] * 999)
        for log in [[FIRST, NONE], [("root", "s", -1)], [FIRST, ("field", 0, "f", -1)], [FIRST, ("mark", 0, 3)], [("root", "s", 0)],
                    [FIRST, ("field", 0, "f", 0)], [FIRST, ("field", 0, "f", 1)]]:
            self.assertIs(run_of(SWAP, log), None)
        new = run_of(SWAP, [])
        new.clear()
        self.assertEqual(run_of(SWAP, []), [("enter",)])

    def test_the_quiet_was_asked_ahead(self):
        asks = Program(["x"], ["r"], [[("new", "x"), ("ask", "q"), ("root", "r", "x"), ("await", "q"), ("mark", "x", 1)]])
        run = run_of(asks, [NONE, FIRST, ("mark", 0, 1)])
        self.assertIs(is_run_of(asks, [NONE, FIRST, ("mark", 0, 1)], run), True)
        self.assertEqual(len(deeds(run)), 5)
        self.assertGreater(run.index(("enter",)), 1)

    def test_the_fewest_steps(self):
        # Behind the loop z can be held still or no longer; a walker that is to begin there has no need to wait for the latter.
        program = Program(["x", "y", "z"], ["r", "s"], [[("new", "z"), ("root", "r", "z"), ("root", "r", ""), ("loop", [("quiet",)]), ("ask", "q"),
                                                         ("new", "x"), ("root", "r", "x"), ("root", "r", ""), ("await", "q"), ("new", "y"),
                                                         ("root", "s", "y")]])
        for log, many in [([FIRST, ("root", "s", 1)], 11), ([NONE, ("root", "s", 0)], 11), ([FIRST], 2), ([FIRST, NONE], 3)]:
            self.assertEqual(len(deeds(run_of(program, log))), many)
        self.assertIs(run_of(program, [FIRST, ("root", "r", 1), ("root", "s", 2)]), None)
        self.check_all(program, 2)

    def test_is_run_of(self):
        log = [FIRST, ("mark", 0, 1)]
        run = [W, W, W, ("enter",), ("root", 0, "r"), ("mark", 0, 0)]
        for thing in [run, tuple(run), [("enter",)] + run[:3] + run[4:], run[:5] + [W] + run[5:] + [W, W, W], run[:4] + [W] + run[4:]]:
            self.assertIs(is_run_of(SWAP, log, thing), True)
        for thing in [run[:-1], run + [("leave", 0)], run + [("enter",)], run + [("root", 0, "r")], run[1:], run[:3], [],
                      run[:3] + [("enter",), ("leave", 0), ("enter",), ("root", 1, "r"), ("mark", 1, 0)], [list(step) for step in run],
                      [("enter",), W, W, W, ("root", False, "r"), ("mark", 0, 0)], run[:5] + [("mark", 0, False)]]:
            self.assertIs(is_run_of(SWAP, log, thing), False)
        self.assertIs(is_run_of(SWAP, [], [("enter",)]), True)
        self.assertIs(is_run_of(SWAP, [], [W] * 4 + [("enter",)]), True)
        self.assertIs(is_run_of(SWAP, [], []), False)
        for thing in odd_values():
            self.assertIs(is_run_of(SWAP, log, thing), False)
            self.assertIs(is_run_of(SWAP, log, run + [thing]), False)
        wrong = [W, W, ("enter",), ("root", 0, "r"), W]
        self.assertIs(is_run_of(HASTY, [FIRST], wrong[:4]), True)
        self.assertIs(is_run_of(HASTY, [FIRST], wrong), False)
        long = [("enter",)] + [("root", 0, "r")] * 20000
        self.assertIs(is_run_of(IDLE, [NONE] * 20000, long), True)
