"""[23] places."""
import unittest

from askless.errors import BadStatement, NoPlace
from askless.places import after, all_places, entered, left_out, put_behind, put_in, statement_at
from askless.programs import Program
from tests.model import inner_address, inner_bodies, mild_parts, next_address, random_parts, statement_of
from tests.values import odd_values

INNER = ("either", [[("mark", "x", 1)], [], [("loop", [("mark", "x", 2), ("mark", "x", 3)]), ("quiet",)]])
BODY = [("new", "x"), INNER, ("loop", []), ("free", "x")]
ADDRESSES = [(0,), (1,), (1, 0, 0), (1, 2, 0), (1, 2, 0, 0, 0), (1, 2, 0, 0, 1), (1, 2, 1), (2,), (3,), (4,)]


def made(second=()):
    return Program(["x"], ["r"], [BODY, second])


class PlacesTest(unittest.TestCase):
    def test_all_places(self):
        self.assertEqual(all_places(made()), [(0, address) for address in ADDRESSES] + [(1, (0,))])
        for seed in range(60):
            for parts in [random_parts(seed), mild_parts(seed)]:
                places = all_places(Program(*parts[:3], fields=parts[3]))
                self.assertEqual(places, sorted(places))

    def test_statement_at(self):
        loop = ("loop", [("mark", "x", 2), ("mark", "x", 3)])
        found = [statement_at(made(), (0, address)) for address in ADDRESSES]
        self.assertEqual(found, [BODY[0], INNER, ("mark", "x", 1), loop, ("mark", "x", 2), ("mark", "x", 3), ("quiet",),
                                 ("loop", []), ("free", "x"), None])
        program = Program(["x"], ["r"], [(("either", ((("loop", ()),),)),)])
        found = statement_at(program, (0, (0,)))
        self.assertEqual(found, ("either", [[("loop", [])]]))
        found[1][0].clear()
        self.assertEqual(statement_at(program, (0, (0,))), ("either", [[("loop", [])]]))

    def test_after(self):
        expected = [(1,), (2,), (2,), (1, 2, 1), (1, 2, 0, 0, 1), (1, 2, 0), (2,), (3,), (4,)]
        self.assertEqual([after(made(), (0, address)) for address in ADDRESSES[:-1]], [(0, address) for address in expected])

    def test_after_the_last_one_of_nested_bodies(self):
        either = ("either", [[("either", [[("quiet",)]])]])
        program = Program(["x"], ["r"], [[either], [("loop", [either])], [either, ("quiet",)]])
        self.assertEqual(after(program, (0, (0, 0, 0, 0, 0))), (0, (1,)))
        self.assertEqual(after(program, (1, (0, 0, 0, 0, 0, 0, 0))), (1, (0,)))
        self.assertEqual(after(program, (2, (0, 0, 0, 0, 0))), (2, (1,)))

    def test_entered(self):
        program = made()
        self.assertEqual([entered(program, (0, (1,)), b) for b in range(3)], [(0, (1, 0, 0)), (0, (2,)), (0, (1, 2, 0))])
        self.assertEqual(entered(program, (0, (2,)), 0), (0, (2,)))
        self.assertEqual(entered(program, (0, (1, 2, 0)), 0), (0, (1, 2, 0, 0, 0)))
        last = Program(["x"], ["r"], [[("loop", [("either", [[], [("quiet",)]])])]])
        self.assertEqual(entered(last, (0, (0, 0, 0)), 0), (0, (0,)))

    def test_as_told_a_second_time(self):
        for seed in range(80):
            cells, roots, bodies, fields = random_parts(seed)
            program = Program(cells, roots, bodies, fields=fields)
            for place in all_places(program):
                writer, address = place
                statement = statement_of(bodies[writer], address)
                self.assertEqual(statement_at(program, place), statement)
                if statement is not None:
                    self.assertEqual(after(program, place), (writer, next_address(bodies[writer], address)))
                    for b in range(len(list(inner_bodies(statement)))):
                        self.assertEqual(entered(program, place, b), (writer, inner_address(bodies[writer], address, b)))


class ChangedTest(unittest.TestCase):
    def test_put_in(self):
        more = ("root", "r", "x")
        self.assertEqual(put_in(made(), (0, (0,)), more).body(0), [more] + BODY)
        self.assertEqual(put_in(made(), (0, (4,)), more).body(0), BODY + [more])
        self.assertEqual(put_in(made(), (1, (0,)), more).body(1), [more])
        self.assertEqual(put_in(made(), (1, (0,)), more).body(0), BODY)
        found = put_in(made(), (0, (1, 2, 0, 0, 1)), ("loop", (more,))).body(0)
        inner = [("mark", "x", 2), ("loop", [more]), ("mark", "x", 3)]
        either = ("either", [[("mark", "x", 1)], [], [("loop", inner), ("quiet",)]])
        self.assertEqual(found, [BODY[0], either, ("loop", []), ("free", "x")])
        self.assertEqual(put_in(made(), (0, (1, 0, 0)), more).body(0)[1][1][0], [more, ("mark", "x", 1)])

    def test_put_behind(self):
        more = ("quiet",)
        self.assertEqual(put_behind(made(), (0, (1,)), 0, more).body(0)[1][1][0], [("mark", "x", 1), more])
        self.assertEqual(put_behind(made(), (0, (1,)), 1, more).body(0)[1][1][1], [more])
        self.assertEqual(put_behind(made(), (0, (1,)), 2, more).body(0)[1][1][2], INNER[1][2] + [more])
        self.assertEqual(put_behind(made(), (0, (2,)), 0, more).body(0)[2], ("loop", [more]))
        found = put_behind(made(), (0, (1, 2, 0)), 0, more).body(0)[1][1][2][0]
        self.assertEqual(found, ("loop", [("mark", "x", 2), ("mark", "x", 3), more]))

    def test_left_out(self):
        self.assertEqual(left_out(made(), (0, (1,))).body(0), [BODY[0]] + BODY[2:])
        self.assertEqual(left_out(made(), (0, (3,))).body(0), BODY[:3])
        self.assertEqual(left_out(made(), (0, (1, 0, 0))).body(0)[1][1][0], [])
        self.assertEqual(left_out(made(), (0, (1, 2, 0, 0, 0))).body(0)[1][1][2][0], ("loop", [("mark", "x", 3)]))

    def test_one_undoes_the_other(self):
        for seed in range(40):
            cells, roots, bodies, fields = random_parts(seed)
            program = Program(cells, roots, bodies, fields=fields)
            for place in all_places(program):
                other = put_in(program, place, ("loop", [("quiet",)]))
                self.assertEqual(statement_at(other, place), ("loop", [("quiet",)]))
                self.assertEqual(left_out(other, place), program)
            self.assertEqual(program, Program(cells, roots, bodies, fields=fields))

    def test_more_than_forty_statements(self):
        program = Program(["x"], ["r"], [[("quiet",)] * 40])
        self.assertEqual(len(put_in(program, (0, (40,)), ("quiet",)).body(0)), 41)

    def refused(self, call, place):
        with self.assertRaises(NoPlace) as caught:
            call()
        self.assertIs(caught.exception.place, place)

    def test_no_place(self):
        program = made()
        places = odd_values() + [
            (0, (5,)), (0, (-1,)), (0, (10 ** 39,)), (2, (0,)), (-1, (0,)), (0, (1, 1, 0)), (0, (1, 0, 1)), (0, (1, 3, 0)),
            (0, (2, 0, 0)), (0, (0, 0, 0)), (0, (1, 0)), (0, ()), (False, (0,)), (0, (True,)), (0, (1, False, 0)), [0, (0,)],
            (0, [0]), (0, 0), (0,), (0, (0,), 0), ("0", (0,)), (0, ("0",)), (0, ([],)), ([], (0,)), (0, (4, 0, 0)),
        ]
        for place in places:
            self.refused(lambda: put_in(program, place, "no"), place)
            self.refused(lambda: put_behind(program, place, 0, "no"), place)
            self.refused(lambda: left_out(program, place), place)

    def test_no_statement_or_body(self):
        program = made()
        for place in [(0, (4,)), (1, (0,))]:
            self.refused(lambda: left_out(program, place), place)
            self.refused(lambda: put_behind(program, place, 0, ("quiet",)), place)
        for place, b in [((0, (0,)), 0), ((0, (1,)), 3), ((0, (1,)), -1), ((0, (2,)), 1), ((0, (1,)), True), ((0, (1,)), 10 ** 39)]:
            self.refused(lambda: put_behind(program, place, b, "no"), place)

    def test_bad_statements(self):
        program = made([("loop", [("quiet",)])])
        for thing in odd_values() + [("new", "z"), ("mark", "x", True)]:
            with self.assertRaises(BadStatement) as caught:
                put_in(program, (0, (1, 2, 0, 0, 1)), thing)
            self.assertEqual((caught.exception.writer, caught.exception.address), (0, (1, 2, 0, 0, 1)))
            with self.assertRaises(BadStatement) as caught:
                put_behind(program, (1, (0,)), 0, thing)
            self.assertEqual((caught.exception.writer, caught.exception.address), (1, (0, 0, 1)))
        with self.assertRaises(BadStatement) as caught:
            put_in(program, (1, (1,)), ("either", [[], [("quiet",), ("root", "z", "")]]))
        self.assertEqual((caught.exception.writer, caught.exception.address), (1, (1, 1, 1)))
        self.assertEqual(program, made([("loop", [("quiet",)])]))
