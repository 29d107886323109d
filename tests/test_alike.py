"""[63] alike."""
import random
import unittest

from askless.alike import are_alike, exchanged, exchanges, parting_log
from askless.errors import NoPlace, NotRight, TooMany
from askless.logs import Logs
from askless.places import all_places, put_in
from askless.programs import Program
from askless.reads import is_less
from askless.tables import Table, is_right
from tests.alone import Keeper, visit
from tests.drawn import listed, mild, parts_of, right_programs, visible
from tests.test_logs import EARLY, FIRST, HASTY, IDLE, NONE, SWAP, TURN
from tests.values import odd_values

CAREFUL = Program(["x"], ["r"], [[("new", "x"), ("mark", "x", 1), ("root", "r", "x")]])
BUSY = Program(["x"], ["r"], [[("root", "r", "")] * 30] * 2)


class AlikeTest(unittest.TestCase):
    def test_alike(self):
        line = [SWAP, EARLY, IDLE, TURN, CAREFUL]
        for one in line:
            for other in line:
                self.assertIs(are_alike(one, other), one == other)
                self.assertIs(parting_log(one, other) is None, one == other)
        renamed = Program(["u", "v"], ["r"], [[("new", "v"), ("root", "r", "v"), ("mark", "v", 1)], [("quiet",), ("new", "u")]], fields=[])
        self.assertIs(are_alike(renamed, EARLY), True)
        self.assertIs(parting_log(EARLY, renamed), None)
        field = Program(["x"], ["r"], [[("new", "x"), ("root", "r", "x"), ("mark", "x", 1)]], fields=["f"])
        self.assertIs(are_alike(field, EARLY), False)
        self.assertEqual(parting_log(EARLY, field), (1, [FIRST, ("field", 0, "f", -1)]))
        self.assertEqual(parting_log(field, EARLY), (0, [FIRST, ("field", 0, "f", -1)]))

    def test_the_least_log_that_one_has(self):
        self.assertEqual(parting_log(EARLY, CAREFUL), (0, [FIRST, ("mark", 0, 0)]))
        self.assertEqual(parting_log(CAREFUL, EARLY), (1, [FIRST, ("mark", 0, 0)]))
        self.assertEqual(parting_log(IDLE, TURN), (1, [FIRST]))
        roots = Program(["x"], ["s"], [[]])
        self.assertEqual(parting_log(roots, IDLE), (1, [NONE]))
        self.assertEqual(parting_log(IDLE, roots), (0, [NONE]))
        self.assertEqual(parting_log(IDLE, Program(["x"], ["q"], [[]])), (1, [("root", "q", -1)]))

    def test_errors_of_one_come_first(self):
        most = len(Table(HASTY))
        for call in [are_alike, parting_log]:
            for one, other, limit, error in [(BUSY, HASTY, 100, TooMany), (HASTY, BUSY, 100, NotRight), (SWAP, HASTY, 100, NotRight),
                                             (SWAP, BUSY, 100, TooMany), (HASTY, SWAP, most, NotRight), (HASTY, SWAP, most - 1, TooMany),
                                             (IDLE, HASTY, most - 1, TooMany), (HASTY, HASTY, most, NotRight)]:
                with self.assertRaises(error) as caught:
                    call(one, other, most=limit)
                if error is TooMany:
                    self.assertEqual(caught.exception.limit, limit)
            with self.assertRaises(TooMany):
                call(BUSY, BUSY, most=960)
            self.assertIn(call(BUSY, BUSY, most=961), (True, None))
            with self.assertRaises(TooMany) as caught:
                call(IDLE, Program(["x"], ["r"], [[("root", "r", "")] * 40] * 2))
            self.assertEqual(caught.exception.limit, 1000)

    def test_drawn_programs(self):
        programs = right_programs(40, 25, (visible, listed, mild))
        seen = set()
        for number in range(60):
            rng = random.Random(number)
            one, other = rng.choice(programs), rng.choice(programs)
            if rng.random() < 0.5:
                other = put_in(one, rng.choice(all_places(one)), rng.choice([("root", "r", ""), ("quiet",)]))
            if not is_right(other, most=20000):
                continue
            found = parting_log(one, other)
            self.assertIs(are_alike(one, other), found is None)
            logs = [{log for log in visit(parts_of(program), Keeper(), 3)} for program in (one, other)]
            parting = sorted(logs[0] ^ logs[1], key=lambda log: (len(log), log))
            if parting:
                self.assertEqual(found, (0 if parting[0] in logs[0] else 1, list(parting[0])))
            seen.add(None if found is None else found[0])
            if found is not None:
                sides = [Logs(one), Logs(other)]
                self.assertIs(found[1] in sides[found[0]], True)
                self.assertIs(found[1] in sides[1 - found[0]], False)
                for log in sides[1 - found[0]].first(50):
                    self.assertTrue(log in sides[found[0]] or is_less(found[1], log))
        self.assertEqual(seen, {None, 0, 1})


class ExchangedTest(unittest.TestCase):
    def test_exchanged(self):
        a, b, c, d = ("new", "x"), ("mark", "x", 1), ("root", "r", "x"), ("quiet",)
        nest = Program(["x"], ["r"], [[a, ("loop", [b, c, ("either", [[a], [c, d]])])], [d, b]])
        for place, bodies in [((0, (0,)), [[("loop", [b, c, ("either", [[a], [c, d]])]), a], [d, b]]),
                              ((0, (1, 0, 0)), [[a, ("loop", [c, b, ("either", [[a], [c, d]])])], [d, b]]),
                              ((0, (1, 0, 1)), [[a, ("loop", [b, ("either", [[a], [c, d]]), c])], [d, b]]),
                              ((0, (1, 0, 2, 1, 0)), [[a, ("loop", [b, c, ("either", [[a], [d, c]])])], [d, b]]),
                              ((1, (0,)), [nest.body(0), [b, d]])]:
            self.assertEqual(exchanged(nest, place), Program(["x"], ["r"], bodies))
            self.assertEqual(exchanged(exchanged(nest, place), place), nest)
        for place in [(0, (1,)), (0, (2,)), (0, (1, 0, 2)), (0, (1, 0, 2, 0, 0)), (0, (1, 0, 2, 1, 1)), (1, (1,)), (1, (2,)), (2, (0,)),
                      (0, (1, 1, 0)), (0, (3,)), (0, (-1,)), (0, (1, 0, 3)), (0, ()), (0, (0, 0))]:
            with self.assertRaises(NoPlace) as caught:
                exchanged(nest, place)
            self.assertIs(caught.exception.place, place)
        fields = Program(["x"], ["r"], [[a, ("point", "x", "f", "x")]], fields=["f", "g"])
        self.assertEqual(exchanged(fields, (0, (0,))).fields(), ["f", "g"])

    def test_any_value(self):
        for thing in odd_values() + [(0, (False,)), (False, (0,)), (0, [0]), [0, (0,)], (0, (0,), 0), (0, 0), (0, ("0",)), (10 ** 39, (0,))]:
            with self.assertRaises(NoPlace) as caught:
                exchanged(SWAP, thing)
            self.assertIs(caught.exception.place, thing)

    def test_exchanges(self):
        self.assertEqual(exchanges(SWAP), [(0, (2,))])
        self.assertEqual(exchanges(EARLY), [])
        self.assertEqual(exchanges(CAREFUL), [])
        self.assertEqual(exchanges(IDLE), [])
        same = Program(["x"], ["r"], [[("quiet",), ("quiet",), ("new", "x")], [("ask", "q"), ("new", "x")]])
        self.assertEqual(exchanges(same.with_body(1, [])), [(0, (0,)), (0, (1,))])
        found = exchanges(SWAP)
        found.clear()
        self.assertEqual(exchanges(SWAP), [(0, (2,))])

    def test_limits_of_exchanges(self):
        with self.assertRaises(TooMany):
            exchanges(SWAP, most=len(Table(SWAP)) - 1)
        with self.assertRaises(NotRight):
            exchanges(HASTY)
        with self.assertRaises(TooMany):
            exchanges(HASTY, most=1)
        # What is under way ahead of the quiet makes more rows than what is so behind it.
        program = Program(["x"], ["r"], [[("new", "x"), ("quiet",), ("later", "x")]])
        many = len(Table(program))
        more = [place for place in exchanges(program) if len(Table(exchanged(program, place))) > many]
        self.assertTrue(more)
        self.assertEqual(exchanges(program, most=many), [place for place in exchanges(program) if place not in more])

    def test_drawn_programs(self):
        seen = set()
        for program in right_programs(12, 40, (visible, listed, mild)):
            wanted = []
            for place in all_places(program):
                try:
                    other = exchanged(program, place)
                    if is_right(other) and are_alike(program, other):
                        wanted.append(place)
                    seen.add((is_right(other), place in wanted))
                except NoPlace:
                    pass
            self.assertEqual(exchanges(program), wanted)
        self.assertEqual(seen, {(False, False), (True, False), (True, True)})
