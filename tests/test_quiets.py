"""[53] quiets."""
import random
import unittest

from askless.errors import BadStatement, NoPlace, TooMany
from askless.places import all_places, left_out, put_in, statement_at
from askless.programs import Program
from askless.quiets import is_quiet_paper, least_quiets, quiet_paper, with_quiets
from askless.runs import is_wrong_run
from askless.tables import Table, is_closed, is_right
from tests.drawn import listed, mild, right_programs, some_programs
from tests.values import odd_values

BARE = [("new", "x"), ("root", "r", "x"), ("root", "r", ""), ("free", "x")]
ONE = Program(["x"], ["r"], [BARE])
TWO = Program(["x", "y"], ["r", "s"], [[("new", "x"), ("new", "y"), ("root", "r", "x"), ("root", "s", "y"), ("root", "r", ""),
                                        ("free", "x"), ("root", "s", ""), ("free", "y")]])
RIGHT = Program(["x"], ["r"], [BARE[:3]])
LOST = Program(["x"], ["r"], [[("free", "x")]])


def at(*address):
    return (0, address)


def parts(places):
    """All lists of some of these places, in their order."""
    found = [[]]
    for place in places:
        found += [part + [place] for part in found]
    return found


def quieted(program, places):
    """The program with quiets at places, put in one by one from the last one on."""
    for place in sorted(places, reverse=True):
        program = put_in(program, place, ("quiet",))
    return program


def seen_by_one(ahead):
    """The run of ONE in which a walker reads x and holds it when it is freed, with so many steps of quiets ahead."""
    return [("writer", 0)] * (2 + ahead) + [("enter",), ("root", 0, "r")] + [("writer", 0)] * 2


class WithQuietsTest(unittest.TestCase):
    def test_programs(self):
        quiet = ("quiet",)
        self.assertEqual(with_quiets(ONE, []), ONE)
        self.assertEqual(with_quiets(ONE, [at(3)]).body(0), BARE[:3] + [quiet] + BARE[3:])
        for places in [[at(0), at(4), at(3)], (at(4), at(0), at(3))]:
            self.assertEqual(with_quiets(ONE, places).body(0), [quiet] + BARE[:3] + [quiet] + BARE[3:] + [quiet])
        nest = Program(["x"], ["r"], [[("loop", [("new", "x"), ("free", "x")]), ("either", [[], [quiet]])], [("ask", "q")]])
        places = [(1, (0,)), at(1), at(0, 0, 1), at(0, 0, 0), (1, (1,)), at(1, 1, 0), at(0)]
        self.assertEqual(with_quiets(nest, places), Program(["x"], ["r"], [
            [quiet, ("loop", [quiet, ("new", "x"), quiet, ("free", "x")]), quiet, ("either", [[], [quiet, quiet]])],
            [quiet, ("ask", "q"), quiet]]))
        self.assertEqual(nest.body(1), [("ask", "q")])

    def test_no_place(self):
        calls = [with_quiets, least_quiets, quiet_paper, lambda program, places: is_quiet_paper(program, places, [], [])]
        many = [at(0)] * 7
        for thing in [(0, (5,)), (1, (0,)), (0, (0, 0, 0)), (0, (True,)), (False, (0,)), None, (0, [0]), (0, ()), (10 ** 39, (0,)), "x"]:
            for call in calls:
                for places in [[thing], [at(0), thing, (9, (9,))], many + [thing]]:
                    with self.assertRaises(NoPlace) as caught:
                        call(ONE, places)
                    self.assertIs(caught.exception.place, thing)

    def test_more_than_five(self):
        program = Program(["x"], ["r"], [[("quiet",)] * 6])
        for call in [least_quiets, quiet_paper, lambda program, places, most=9: is_quiet_paper(program, places, None, None)]:
            for most in [1, 1000]:
                with self.assertRaises(TooMany) as caught:
                    call(program, all_places(program)[:6], most=most)
                self.assertEqual(caught.exception.limit, 5)
        self.assertEqual(least_quiets(program, all_places(program)[:5]), [[]])
        self.assertEqual(len(with_quiets(program, all_places(program)).body(0)), 13)


class LeastQuietsTest(unittest.TestCase):
    def test_sets(self):
        self.assertEqual(least_quiets(ONE, []), [])
        self.assertEqual(least_quiets(RIGHT, []), [[]])
        self.assertEqual(least_quiets(RIGHT, [at(0), at(1)]), [[]])
        self.assertEqual(least_quiets(LOST, [at(0), at(1)]), [])
        for places in [[at(3), at(0), at(2), at(4)], (at(0), at(2), at(4), at(3))]:
            self.assertEqual(least_quiets(ONE, places), [[at(3)]])
        # One quiet does for both cells if both roots lead away ahead of it.
        late = Program(["x", "y"], ["r", "s"], [[("new", "x"), ("new", "y"), ("root", "r", "x"), ("root", "s", "y"), ("root", "r", ""),
                                                 ("root", "s", ""), ("free", "x"), ("free", "y")]])
        self.assertEqual(least_quiets(late, [at(5), at(6), at(7)]), [[at(5), at(7)], [at(6)]])
        goods, bads = quiet_paper(late, [at(5), at(6), at(7)])
        self.assertEqual([part for part, rows in goods], [[at(5), at(7)], [at(6)]])
        self.assertEqual([part for part, run in bads], [[at(5)], [at(7)]])
        self.assertEqual(least_quiets(TWO, [at(5), at(7), at(6)]), [[at(5), at(7)]])
        # A greatest set of few places can be greater than one of many.
        mixed = Program(["x", "y"], ["r", "s"], [[("new", "x"), ("new", "y"), ("root", "r", "x"), ("root", "s", "y"), ("root", "r", ""),
                                                  ("free", "x")], [("ask", "q"), ("await", "q")]])
        bads = quiet_paper(mixed, [at(4), at(5), (1, (0,)), (1, (1,))])[1]
        self.assertEqual([part for part, run in bads], [[at(4), (1, (0,)), (1, (1,))]])
        # Sets that are wrong with no place more than they have can be of unlike sizes.
        kept = [("new", "x"), ("new", "y"), ("root", "r", "x"), ("root", "s", "y"), ("root", "r", "")]
        for more, places, sets in [([("free", "x"), ("root", "s", ""), ("new", "z"), ("free", "y")], [5, 7, 8], [[5], [7, 8]]),
                                   ([("new", "z"), ("free", "x"), ("root", "s", ""), ("free", "y")], [5, 6, 8], [[5, 6], [8]])]:
            program = Program(["x", "y", "z"], ["r", "s"], [kept + more])
            bads = quiet_paper(program, [at(number) for number in places])[1]
            self.assertEqual([part for part, run in bads], [[at(number) for number in part] for part in sets])
        found = least_quiets(late, [at(5), at(6), at(7)])
        found[0].clear()
        found.clear()
        self.assertEqual(least_quiets(late, [at(5), at(6), at(7)]), [[at(5), at(7)], [at(6)]])

    def test_limits(self):
        for program, places in [(ONE, [at(3), at(0)]), (TWO, [at(5), at(7)]), (RIGHT, [at(0)])]:
            goods = least_quiets(program, places)
            looked = [part for part in parts(sorted(places)) if not any(set(good) < set(part) for good in goods)]
            most = max(len(Table(quieted(program, part))) for part in looked)
            self.assertEqual(least_quiets(program, places, most=most), goods)
            self.assertEqual([part for part, rows in quiet_paper(program, places, most=most)[0]], goods)
            for call in [least_quiets, quiet_paper]:
                with self.assertRaises(TooMany) as caught:
                    call(program, places, most=most - 1)
                self.assertEqual(caught.exception.limit, most - 1)
        # What has a least set as a part is not looked at: with both quiets there would be more rows.
        most = max(len(Table(quieted(ONE, part))) for part in [[], [at(0)], [at(3)]])
        self.assertGreater(len(Table(quieted(ONE, [at(0), at(3)]))), most)
        self.assertEqual(least_quiets(ONE, [at(0), at(3)], most=most), [[at(3)]])

    def check(self, program, places):
        right = [part for part in parts(sorted(places)) if is_right(quieted(program, part))]
        wanted = sorted(part for part in right if not any(set(other) < set(part) for other in right))
        self.assertEqual(least_quiets(program, places), wanted)
        goods, bads = quiet_paper(program, places)
        self.assertEqual([part for part, rows in goods], wanted)
        self.assertEqual([rows for part, rows in goods], [Table(quieted(program, part)).rows() for part in wanted])
        wrong = [part for part in parts(sorted(places)) if part not in right]
        wider = sorted(part for part in wrong if not any(set(part) < set(other) for other in wrong))
        self.assertEqual([part for part, run in bads], wider)
        for part, run in bads:
            self.assertIs(is_wrong_run(quieted(program, part), run), True)
        for part, rows in goods:
            self.assertIs(is_closed(quieted(program, part), rows), True)
        self.assertIs(is_quiet_paper(program, places, goods, bads), True)
        for k in range(len(goods)):
            self.assertIs(is_quiet_paper(program, places, goods[:k] + goods[k + 1:], bads), False)
        for k in range(len(bads)):
            self.assertIs(is_quiet_paper(program, places, goods, bads[:k] + bads[k + 1:]), False)
        return len(wanted)

    def test_drawn_programs(self):
        seen = set()
        for number, program in enumerate(some_programs(40, 60, (mild, listed))):
            rng = random.Random(number)
            quiets = [place for place in all_places(program) if statement_at(program, place) == ("quiet",)]
            if quiets:
                program = left_out(program, rng.choice(quiets))
            places = all_places(program)
            places = rng.sample(places, min(len(places), rng.randint(0, 4)))
            try:
                seen.add(self.check(program, places))
            except TooMany:
                continue
        self.assertTrue({0, 1, 2} <= seen, seen)


class QuietPaperTest(unittest.TestCase):
    def setUp(self):
        self.places = [at(3), at(0), at(4)]
        self.goods, self.bads = quiet_paper(ONE, self.places)

    def holds(self, goods, bads, places=None):
        return is_quiet_paper(ONE, self.places if places is None else places, goods, bads)

    def test_paper(self):
        self.assertEqual(self.goods, [([at(3)], Table(quieted(ONE, [at(3)])).rows())])
        self.assertEqual([part for part, run in self.bads], [[at(0), at(4)]])
        self.assertIs(self.holds(self.goods, self.bads), True)
        self.assertEqual(quiet_paper(RIGHT, []), ([([], Table(RIGHT).rows())], []))
        goods, bads = quiet_paper(LOST, [at(0)])
        self.assertEqual((goods, [part for part, run in bads]), ([], [[at(0)]]))
        self.goods[0][0].clear()
        self.goods[0][1].clear()
        self.bads[0][1].clear()
        again = quiet_paper(ONE, self.places)
        self.assertEqual((again[0][0][0], len(again[0][0][1]) > 0, len(again[1][0][1]) > 0), ([at(3)], True, True))

    def test_other_papers(self):
        rows, run = self.goods[0][1], self.bads[0][1]
        both = Table(quieted(ONE, [at(3), at(4)])).rows()
        good = [(self.goods * 2, self.bads), (self.goods + [([at(3), at(4)], both)], self.bads), (self.goods, self.bads * 2),
                ([([at(3)], rows[::-1] + rows[:1])], [([at(0), at(4)], tuple(run))]),
                (self.goods, self.bads + [([], seen_by_one(0))]), (self.goods, self.bads + [([at(0)], seen_by_one(2))]),
                (self.goods, self.bads + [([at(4)], [("enter",), ("leave", 0), ("enter",)] + seen_by_one(0)[:2] + [("root", 1, "r")]
                                           + [("writer", 0)] * 2)])]
        bad = [([], self.bads), (self.goods, []), (tuple(self.goods), self.bads), (self.goods, tuple(self.bads)),
               ([list(self.goods[0])], self.bads), ([([at(3)], tuple(rows))], self.bads), ([([at(3)], rows[1:])], self.bads),
               ([((at(3),), rows)], self.bads), ([([at(3), at(3)], rows)], self.bads), (self.goods + [([at(2)], rows)], self.bads),
               (self.goods, [([at(4), at(0)], run)]), (self.goods, [([at(0), at(4)], run[:-1])]), (self.goods, [([at(0)], run)]),
               (self.goods, [([at(0), at(4)], run, 1)]), ([([(0, (True,))], rows)], self.bads), ([([at(3)], rows, 1)], self.bads),
               ([([at(3), at(4)], both)], self.bads), (self.goods + [([at(4), at(3)], both)], self.bads),
               (self.goods, self.bads + [([at(1)], run)])]
        for goods, bads in good:
            self.assertIs(self.holds(goods, bads), True)
        for goods, bads in bad:
            self.assertIs(self.holds(goods, bads), False, (goods, bads))

    def test_any_values(self):
        for thing in odd_values():
            self.assertIs(self.holds(thing, self.bads), False)
            self.assertIs(self.holds(self.goods, thing), False)
            self.assertIs(self.holds(self.goods + [thing], self.bads), False)
            self.assertIs(self.holds(self.goods, self.bads + [thing]), False)
            self.assertIs(self.holds([(thing, self.goods[0][1])], self.bads), False)
            self.assertIs(self.holds([([at(3)], thing)], self.bads), False)
            self.assertIs(self.holds([([thing], self.goods[0][1])], self.bads), False)
            self.assertIs(self.holds(self.goods, [([at(0), at(4)], thing)]), False)
            self.assertIs(self.holds(self.goods, self.bads + [(thing, self.bads[0][1])]), False)

    def test_true_is_no_number(self):
        one = Program(["x"], ["r"], [[("new", "x"), ("free", "x"), ("free", "x")]])
        goods, bads = quiet_paper(one, [at(1)])
        self.assertIs(is_quiet_paper(one, [at(1)], goods, bads), True)
        self.assertIs(is_quiet_paper(one, [at(1)], goods, [([(0, (True,))], bads[0][1])]), False)
        self.assertIs(is_quiet_paper(one, [at(1)], goods, [([(False, (1,))], bads[0][1])]), False)

    def test_quiets_never_harm_those_sets(self):
        for program in right_programs(15, 40, (mild,)):
            places = all_places(program)[:3]
            self.assertEqual(least_quiets(program, places), [[]])

    def test_arguments_stay(self):
        places, goods, bads = list(self.places), list(self.goods), list(self.bads)
        for call in [with_quiets, least_quiets, quiet_paper]:
            call(ONE, places)
        is_quiet_paper(ONE, places, goods, bads)
        self.assertEqual((places, goods, bads), (self.places, self.goods, self.bads))
        with self.assertRaises(BadStatement):
            put_in(ONE, at(0), ("new", "q"))
