"""[31] tables."""
import random
import unittest

from askless.errors import TooMany
from askless.programs import Program
from askless.steps import begin_row, followers, wrongs
from askless.tables import Table, is_closed, is_right
from tests.model import mild_parts, random_parts
from tests.test_rows import go
from tests.test_steps import W, made
from tests.values import odd_values

SWAP = Program(["x", "y"], ["r"], [[("new", "x"), ("mark", "x", 1), ("root", "r", "x"), ("new", "y"), ("mark", "y", 2),
                                    ("root", "r", "y"), ("quiet",), ("free", "x")]])
HASTY = Program(["x"], ["r"], [[("new", "x"), ("root", "r", "x"), ("root", "r", ""), ("free", "x")]])
ROUND = Program(["x"], ["r"], [[("loop", [("new", "x"), ("root", "r", "x"), ("root", "r", ""), ("quiet",), ("free", "x")])]])


def random_programs(many):
    for seed in range(many):
        for parts in [random_parts(seed), mild_parts(seed)]:
            yield Program(*parts[:3], fields=parts[3])


def reached(program):
    """The rows of the table with the fewest steps to each, by the followers alone."""
    costs, line = {begin_row(program): 0}, [begin_row(program)]
    for row in line:
        for step, behind in followers(program, row):
            if behind not in costs:
                costs[behind] = costs[row] + 1
                line.append(behind)
    return costs


def small(program):
    try:
        return len(Table(program, most=300)) > 0
    except TooMany:
        return False


class TableTest(unittest.TestCase):
    def test_a_right_program(self):
        table = Table(SWAP)
        rows = [go(SWAP, [W] * many) for many in range(10)]
        self.assertEqual(table.rows(), sorted(rows))
        self.assertEqual(len(table), 10)
        self.assertEqual(table.wrongs(), [])
        self.assertIs(table.is_safe, True)
        self.assertIs(table.fewest, None)
        self.assertEqual([table.cost(row) for row in rows], list(range(10)))
        self.assertEqual([table.way(row) for row in rows], [[W] * many for many in range(10)])
        self.assertIs(is_right(SWAP), True)

    def test_a_wrong_program(self):
        table = Table(HASTY)
        last = go(HASTY, [W] * 3)
        self.assertEqual(len(table), 4)
        self.assertEqual(table.wrongs(), [(last, W, "held", "x")])
        self.assertIs(table.is_safe, False)
        self.assertEqual(table.fewest, 4)
        self.assertIs(is_right(HASTY), False)
        self.assertEqual(Table(Program(["x"], ["r"], [[("free", "x")]])).fewest, 1)

    def test_right_and_wrong_programs(self):
        again = [("new", "x"), ("root", "r", "x"), ("root", "r", ""), ("quiet",), ("free", "x")]
        later = again[:3] + [("later", "x")]
        right = [[again + again], [later], [[("loop", again)]], [again, [("quiet",)]], [[("new", "x"), ("free", "x")] * 3]]
        wrong = [[later + again], [[("loop", later)]], [again, again], [again, [("root", "r", "x")]]]
        for writers in right:
            self.assertIs(is_right(made(*writers)), True)
        for writers in wrong:
            self.assertIs(is_right(made(*writers)), False)

    def test_loops_come_back(self):
        table = Table(ROUND)
        self.assertEqual(len(table), 8)
        self.assertEqual(table.rows_at(((0, 0, 3),)), [go(ROUND, [("writer", 0, 1), W, W, W]),
                                                      go(ROUND, [("writer", 0, 1), W, W, W, W])])
        self.assertEqual(table.cost(go(ROUND, [("writer", 0, 1), W, W, W, W, W, W])), 0)

    def test_rows_at(self):
        program = made([("new", "x"), ("later", "x")], [("ask", "q")])
        table = Table(program)
        for places in {row[0] for row in table.rows()}:
            self.assertEqual(table.rows_at(places), [row for row in table.rows() if row[0] == places])
        self.assertEqual(table.rows_at(((9,), (0,))), [])
        self.assertEqual(table.rows_at(((0,),)), [])

    def test_limits(self):
        for program in [SWAP, HASTY, ROUND]:
            many = len(Table(program))
            self.assertEqual(len(Table(program, most=many)), many)
            for limit in [many - 1, 1]:
                for call in [Table, is_right]:
                    with self.assertRaises(TooMany) as caught:
                        call(program, most=limit)
                    self.assertEqual(caught.exception.limit, limit)
        self.assertEqual(len(Table(made([]), most=1)), 1)
        # The limit counts also where fewer rows would show that the program is wrong.
        with self.assertRaises(TooMany):
            is_right(made([("free", "x")], [("quiet",)] * 3), most=2)

    def test_without_a_limit_a_thousand(self):
        def steps(*many):
            return made(*[[("root", "r", "")] * number for number in many])
        self.assertEqual(len(Table(steps(39, 24))), 40 * 25)
        self.assertIs(is_right(steps(39, 24)), True)
        for call in [Table, is_right]:
            with self.assertRaises(TooMany) as caught:
                call(steps(6, 10, 12))
            self.assertEqual(caught.exception.limit, 1000)
        self.assertEqual(len(Table(steps(6, 10, 12), most=1001)), 7 * 11 * 13)
        self.assertEqual(len(Table(steps(26, 26, 26), most=20000)), 27 ** 3)
        # Of two quiets that are asked, either one can be the elder one.
        self.assertEqual(len(Table(made([("quiet",)] * 3, [("quiet",)] * 2))), 7 * 5 + 3 * 2)

    def test_equal_and_within(self):
        self.assertIs(Table(SWAP) == Table(SWAP, most=10), True)
        self.assertIs(Table(SWAP) != Table(SWAP), False)
        self.assertIs(Table(SWAP) == Table(HASTY), False)
        self.assertIs(Table(SWAP) == 10, False)
        # The rows are the same, though one program is wrong.
        stuck = made([("new", "x"), ("new", "x")])
        self.assertIs(Table(stuck) == Table(made([("new", "x"), ("new", "x")])), True)
        short = made([("new", "x"), ("mark", "x", 0), ("free", "y")])
        long = made([("new", "x"), ("mark", "x", 0), ("mark", "x", 1)])
        self.assertIs(Table(short).within(Table(long)), True)
        self.assertIs(Table(long).within(Table(short)), False)
        self.assertIs(Table(long).within(Table(long)), True)
        for thing in odd_values() + [SWAP]:
            self.assertIs(Table(SWAP) == thing, False)

    def test_in(self):
        table = Table(SWAP)
        for row in table.rows():
            self.assertIs(row in table, True)
            self.assertIs(list(row) in table, False)
            self.assertIs(tuple(list(part) for part in row) in table, False)
        self.assertIs(begin_row(HASTY) in table, False)
        row = go(SWAP, [W] * 2)
        for other in spoiled(row):
            self.assertIs(other in table, False, other)
        for thing in odd_values() + [SWAP, table]:
            self.assertIs(thing in table, False)

    def test_what_is_returned_belongs_to_the_caller(self):
        table = Table(HASTY)
        rows, bad, way = table.rows(), table.wrongs(), table.way(table.rows()[-1])
        for ask in [table.rows, table.wrongs, lambda: table.way(rows[-1]), lambda: table.rows_at(rows[0][0])]:
            before = list(ask())
            ask().clear()
            self.assertEqual(ask(), before)
        self.assertEqual((table.rows(), table.wrongs(), table.way(rows[-1]), len(table)), (rows, bad, way, 4))

    def test_tables_of_random_programs(self):
        for program in random_programs(70):
            if not small(program):
                continue
            table, costs = Table(program), reached(program)
            self.assertEqual(table.rows(), sorted(costs))
            bad = [(row, *wrong) for row in sorted(costs) for wrong in wrongs(program, row)]
            self.assertEqual(table.wrongs(), bad)
            self.assertEqual(table.is_safe, not bad)
            self.assertEqual(table.fewest, min((costs[wrong[0]] + 1 for wrong in bad), default=None))
            for row in random.Random(0).sample(table.rows(), min(6, len(table))):
                self.assertEqual(table.cost(row), costs[row])
                self.assertEqual(len(table.way(row)), costs[row])
                self.assertEqual(go(program, table.way(row)), row)
                self.assertIn(row, table)


def followed(program, row):
    """What seems to follow a value that is no row, so far as it can be told."""
    line = [row]
    for this in line:
        if len(line) > 100:
            break
        try:
            line += [behind for step, behind in followers(program, this) if behind not in line]
        except (TypeError, IndexError, KeyError, ValueError, AttributeError):
            pass
    return line


def spoiled(row):
    """Values that Python takes for the row, or nearly, and that are none of its program."""
    places, things, roots, locks, asks, ranks, laters = row
    if places[0][0] in (0, 1):
        yield (((bool(places[0][0]),),) + places[1:], things, roots, locks, asks, ranks, laters)
    if any(thing and thing[0] in (0, 1) for thing in things):
        marks = tuple((bool(thing[0]), thing[1]) if thing else () for thing in things)
        yield (places, marks, roots, locks, asks, ranks, laters)
    if 0 in ranks:
        yield (places, things, roots, locks, asks, tuple(False if rank == 0 else rank for rank in ranks), laters)
    yield (places, things, roots, locks, asks, ranks)
    yield row + ((),)
    yield (list(places), things, roots, locks, asks, ranks, laters)
    yield (places, things, roots, locks, list(asks), ranks, laters)
    yield (places, things, roots, locks, asks, ranks, None)


class ClosedTest(unittest.TestCase):
    def test_the_rows_of_a_right_program(self):
        for program in [SWAP, ROUND, made([])]:
            rows = Table(program).rows()
            self.assertIs(is_closed(program, rows), True)
            self.assertIs(is_closed(program, rows[::-1] + rows[:1]), True)
            self.assertIs(is_closed(program, tuple(rows)), False)
            for at in range(len(rows)):
                self.assertIs(is_closed(program, rows[:at] + rows[at + 1:]), False)
                for thing in [None, list(rows[at]), True]:
                    self.assertIs(is_closed(program, rows[:at] + [thing] + rows[at + 1:]), False)
                    self.assertIs(is_closed(program, rows + [thing]), False)
        self.assertIs(is_closed(HASTY, Table(HASTY).rows()), False)
        self.assertIs(is_closed(SWAP, Table(HASTY).rows()), False)

    def test_random_programs(self):
        for program in random_programs(60):
            if small(program):
                table = Table(program)
                self.assertIs(is_closed(program, table.rows()), table.is_safe)

    def test_any_value(self):
        for thing in odd_values() + [SWAP, Table(SWAP)]:
            self.assertIs(is_closed(SWAP, thing), False)
            self.assertIs(is_closed(SWAP, Table(SWAP).rows() + [thing]), False)

    def test_true_is_not_one(self):
        rows = Table(SWAP).rows()
        for at, row in enumerate(rows):
            for other in spoiled(row):
                if other == row:
                    self.assertIs(is_closed(SWAP, rows[:at] + [other] + rows[at + 1:]), False)
                    self.assertIs(is_closed(SWAP, rows + [other]), False)

    def closed_with(self, program, row):
        """Whether the rows of a program are closed with a row more that leads nowhere."""
        return is_closed(program, Table(program).rows() + [row])

    def test_rows_that_are_not_reached(self):
        end = ((0,),)
        program = made([], cells="xy", roots="rs", fields="f")
        lacking, thing = (), (0, ("",))
        good = [
            (end, (lacking, lacking), ("", ""), (), (), (-1, -1), ()),
            (end, ((3, ("x",)), lacking), ("", ""), (), (), (-1, -1), ()),
            (end, ((3, ("x",)), lacking), ("x", ""), (), (), (0, -1), ()),
            (end, ((0, ("y",)), thing), ("x", "x"), (), (), (0, 0), ()),
            (end, ((0, ("?",)), thing), ("", "y"), (), (), (-1, 0), ()),
            (end, (thing, thing), ("", ""), (), (), (0, -1), ()),
        ]
        for row in good:
            self.assertIs(self.closed_with(program, row), True, row)
        bad = [
            (end, (lacking,), ("", ""), (), (), (-1, -1), ()), (end, (lacking, lacking, lacking), ("", ""), (), (), (-1, -1), ()),
            (end, (lacking, lacking), ("",), (), (), (-1, -1), ()), (end, (lacking, lacking), ("", ""), (-1,), (), (-1, -1), ()),
            (end, (lacking, lacking), ("", ""), (), (), (-1,), ()), (((1,),), (lacking, lacking), ("", ""), (), (), (-1, -1), ()),
            (((0,), (0,)), (lacking, lacking), ("", ""), (), (), (-1, -1), ()), ((), (lacking, lacking), ("", ""), (), (), (-1, -1), ()),
            ((0,), (lacking, lacking), ("", ""), (), (), (-1, -1), ()), (((-1,),), (lacking, lacking), ("", ""), (), (), (-1, -1), ()),
            (end, ((4, ("",)), lacking), ("", ""), (), (), (-1, -1), ()), (end, ((-1, ("",)), lacking), ("", ""), (), (), (-1, -1), ()),
            (end, ((False, ("",)), lacking), ("", ""), (), (), (-1, -1), ()), (end, ((0, ()), lacking), ("", ""), (), (), (-1, -1), ()),
            (end, ((0, ("", "")), lacking), ("", ""), (), (), (-1, -1), ()), (end, ((0, ("y",)), lacking), ("", ""), (), (), (-1, -1), ()),
            (end, ((0, ("z",)), lacking), ("", ""), (), (), (-1, -1), ()), (end, ((0, (0,)), lacking), ("", ""), (), (), (-1, -1), ()),
            (end, ((0,), lacking), ("", ""), (), (), (-1, -1), ()), (end, ((0, [""]), lacking), ("", ""), (), (), (-1, -1), ()),
            (end, ("", lacking), ("", ""), (), (), (-1, -1), ()), (end, (None, lacking), ("", ""), (), (), (-1, -1), ()),
            (end, ((0, "x"), lacking), ("", ""), (), (), (-1, -1), ()), (end, ((0, 0), lacking), ("", ""), (), (), (-1, -1), ()),
            (end, ("ab", lacking), ("", ""), (), (), (-1, -1), ()), (end, (thing, lacking), "xx", (), (), (-1, -1), ()),
            (end, (lacking, lacking), ("", ""), "", (), (-1, -1), ()), (end, (lacking, lacking), ("", ""), (), "", (-1, -1), ()),
            (end, (lacking, lacking), ("", ""), (), (), (-1, -1), ""), (end, (lacking, lacking), ("", ""), (), (), (-1, -1), 0),
            (0, (lacking, lacking), ("", ""), (), (), (-1, -1), ()), (end, (lacking, lacking), ("", ""), 0, 0, 0, 0),
            (end, 0, ("", ""), (), (), (-1, -1), ()), (end, (lacking, lacking), 0, (), (), (-1, -1), ()),
            (end, (lacking, lacking), ("", ""), (), 0, (-1, -1), ()), (end, (lacking, lacking), ("", ""), (), (), 0, ()),
            (end, (0, lacking), ("", ""), (), (), (-1, -1), ()), (end, (lacking, lacking), ("x", ""), (), (), (-1, -1), ()),
            (end, (thing, lacking), ("?", ""), (), (), (-1, -1), ()), (end, (thing, lacking), ("x", ""), (), (), (-1, -1), ()),
            (end, (thing, lacking), ("r", ""), (), (), (-1, -1), ()), (end, (thing, lacking), (None, ""), (), (), (-1, -1), ()),
            (end, ((0, ("y",)), thing), ("x", ""), (), (), (0, -1), ()), (end, (thing, thing), ("", ""), (), (), (1, -1), ()),
            (end, (thing, thing), ("", ""), (), (), (-2, -1), ()), (end, (lacking, thing), ("", ""), (), (), (0, -1), ()),
            (end, ((0, ("?",)), thing), ("", ""), (), (), (0, -1), ()), (end, (thing, thing), ("", ""), (), ("q",), (-1, -1), ()),
            (end, (thing, thing), ("", ""), (), ("!0",), (-1, -1), ()), (end, (thing, lacking), ("", ""), (), ("~y",), (-1, -1), ()),
            (end, (thing, lacking), ("", ""), (), (), (-1, -1), ("y",)), (end, (thing, lacking), ("", ""), (), (), ("-1", -1), ()),
        ]
        for row in bad:
            self.assertIs(self.closed_with(program, row), False, row)

    def both(self, program, row, others):
        """A list with a row and all that follows it is closed; a row of the others in its place is none."""
        rows, line = Table(program).rows() + [row], [row]
        for this in line:
            self.assertEqual(wrongs(program, this), [])
            for step, behind in followers(program, this):
                if behind not in rows:
                    rows.append(behind)
                    line.append(behind)
        self.assertIs(is_closed(program, rows), True)
        for other in others:
            self.assertIs(is_closed(program, rows + [other]), False, other)
            self.assertIs(is_closed(program, rows + followed(program, other)), False, other)

    def test_asks_and_laters(self):
        program = made([("quiet",), ("ask", "q"), ("ask", "p")], cells="xy", fields="")
        thing = (0, ())
        row = (((0,),), (thing, thing), ("",), (), ("q", "!0", "p", "~x"), (3, 0), ("y",))
        bad = [
            ("q", "q"), ("q", "!0", "!0"), ("~x", "~x"), ("~y",), ("~z",), ("!1",), ("o",), ("x",), ("!",), ("~",), (0,),
            ("q", None), ("!00",), (("q",),), ("",),
        ]
        others = [row[:4] + (asks,) + ((-1, -1),) + row[6:] for asks in bad]
        others += [row[:6] + (laters,) for laters in [("x",), ("x", "y"), ("y", "y"), ("z",), (0,), "y", ("",)]]
        others += [(((1,),),) + row[1:], row[:5] + ((5, 0),) + row[6:]]
        self.both(program, row, others)
        free = row[:4] + ((), (-1, -1), ("x", "y"))
        self.both(program, free, [row[:4] + ((), (-1, -1), ("y", "x"))])

    def test_asks_where_nothing_follows(self):
        program = made([("ask", "q")], [("quiet",)], cells="x", fields="")
        places, rest = ((1,), (1,)), (((0, ()),), ("",), ())
        self.both(program, (places, *rest, ("q",), (1,), ()), [(places, *rest, ("q", "q"), (1,), ()), (places, *rest, ("q",), (2,), ()),
                  (places, *rest, ("!1",), (1,), ()), (places, *rest, ("p",), (1,), ()), (places, *rest, "q", (1,), ())])
        self.both(program, (places, *rest, (), (-1,), ()), [(((1,), (2,)), *rest, (), (-1,), ()), (((7,), (1,)), *rest, (), (-1,), ())])

    def test_under_way_and_begun(self):
        program = made([], cells="xy", fields="")
        thing = (0, ())
        row = (((0,),), (thing, thing), ("",), (), ("~x",), (-1, -1), ("y",))
        self.both(program, row, [row[:6] + (("x",),), row[:6] + (("x", "y"),), row[:6] + (("y", "y"),)])

    def test_locks_are_held_by_writers(self):
        program = made([("lock", "l"), ("unlock", "l")], [], cells="x", fields="")
        row = (((2,), (0,)), ((),), ("",), (1,), (), (-1,), ())
        self.both(program, row, [row[:3] + ((holder,),) + row[4:] for holder in [2, -2, True, False, None, "0", (0,), 10 ** 39]])
        rows = Table(program).rows()
        stuck = (((0,), (0,)), ((),), ("",), (1,), (), (-1,), ())
        self.assertIs(is_closed(program, rows + [stuck]), True)

    def test_rows_with_wrong_steps(self):
        program = made([("new", "x"), ("free", "x")], cells="x", fields="")
        rows = Table(program).rows()
        self.assertIs(is_closed(program, rows), True)
        self.assertIs(is_closed(program, rows + [(((1,),), ((),), ("",), (), (), (-1,), ())]), False)
        self.assertIs(is_closed(program, rows + [(((1,),), ((0, ()),), ("x",), (), (), (0,), ())]), False)

    def test_arguments_stay(self):
        rows = Table(SWAP).rows()
        before = list(rows)
        self.assertIs(is_closed(SWAP, rows), True)
        self.assertIs(is_closed(SWAP, rows), True)
        self.assertEqual(rows, before)
