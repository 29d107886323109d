"""[30] steps."""
import unittest

from askless.programs import Program
from askless.steps import begin_row, followers, wrongs
from tests.model import World, closed_walkers, mild_parts, random_parts, row_of, tried
from tests.test_rows import go

W = ("writer", 0)
V = ("writer", 1)


def made(*writers, cells=("x", "y"), roots=("r",), fields=("f",)):
    return Program(list(cells), list(roots), list(writers), fields=list(fields))


class BeginTest(unittest.TestCase):
    def test_begin_row(self):
        program = made([("lock", "l")], [("lock", "k"), ("ask", "q")], roots=["s", "r"])
        self.assertEqual(begin_row(program), (((0,), (0,)), ((), ()), ("", ""), (-1, -1), (), (-1, -1), ()))

    def test_a_writer_at_its_end_has_no_steps(self):
        self.assertEqual(followers(made([]), begin_row(made([]))), [])
        self.assertEqual(wrongs(made([]), begin_row(made([]))), [])


class EffectsTest(unittest.TestCase):
    def behind(self, program, steps):
        return go(program, steps)

    def test_new_mark_point_root(self):
        program = made([("new", "x"), ("new", "y"), ("mark", "y", 3), ("point", "x", "g", "y"), ("point", "x", "f", "x"),
                        ("root", "s", "x"), ("root", "s", "")], roots=["r", "s"], fields=["f", "g"])
        self.assertEqual(go(program, [W])[1], ((0, ("", "")), ()))
        self.assertEqual(go(program, [W] * 3)[1], ((0, ("", "")), (3, ("", ""))))
        self.assertEqual(go(program, [W] * 5)[1], ((0, ("x", "y")), (3, ("", ""))))
        self.assertEqual(go(program, [W] * 5)[2:], (("", ""), (), (), (-1, -1), ()))
        self.assertEqual(go(program, [W] * 6)[2:], (("", "x"), (), (), (0, 0), ()))
        # What has come to a walker stays with it, whatever the root has now.
        self.assertEqual(go(program, [W] * 7)[2:], (("", ""), (), (), (0, 0), ()))
        self.assertEqual(go(program, [W] * 7)[0], ((7,),))

    def test_free_leaves_what_is_gone(self):
        program = made([("new", "x"), ("new", "y"), ("point", "x", "f", "y"), ("mark", "x", 1), ("free", "y"), ("new", "y"),
                        ("point", "x", "f", "y")])
        self.assertEqual(go(program, [W] * 5)[1], ((1, ("?",)), ()))
        self.assertEqual(go(program, [W] * 6)[1], ((1, ("?",)), (0, ("",))))
        self.assertEqual(go(program, [W] * 7)[1], ((1, ("y",)), (0, ("",))))

    def test_asks_in_the_order_of_their_askings(self):
        program = made([("ask", "p"), ("ask", "q"), ("ask", "p"), ("quiet",), ("await", "q"), ("await", "p")])
        asks = [go(program, [W] * many)[4] for many in range(8)]
        self.assertEqual(asks, [(), ("p",), ("p", "q"), ("q", "p"), ("q", "p", "!0"), ("q", "p"), ("p",), ()])
        self.assertEqual(go(program, [W] * 4)[0], ((3,),))
        self.assertEqual(go(program, [W] * 5)[0], ((4,),))

    def test_one_writer_asks_and_another_awaits(self):
        program = made([("ask", "q")], [("await", "q")])
        self.assertEqual(wrongs(program, begin_row(program)), [(V, "fault", "q")])
        self.assertEqual(go(program, [W, V])[4], ())

    def test_later_begin_end(self):
        program = made([("new", "y"), ("new", "x"), ("later", "y"), ("later", "x"), ("point", "x", "f", "y")])
        row = go(program, [W] * 4)
        self.assertEqual(row[6], ("x", "y"))
        self.assertEqual([step for step, other in followers(program, row)], [("begin", "x"), ("begin", "y"), W])
        row = go(program, [("begin", "y")], row)
        self.assertEqual(row[4:], (("~y",), (-1, -1), ("x",)))
        self.assertEqual([step for step, other in followers(program, row)], [("begin", "x"), ("end", "y"), W])
        row = go(program, [W, ("begin", "x")], row)
        self.assertEqual([step for step, other in followers(program, row)], [("end", "x"), ("end", "y")])
        self.assertEqual(row[4], ("~y", "~x"))
        row = go(program, [("end", "y")], row)
        self.assertEqual(row, (((5,),), ((0, ("?",)), ()), ("",), (), ("~x",), (-1, -1), ()))

    def test_locks(self):
        program = made([("lock", "l"), ("lock", "k"), ("unlock", "l")], [("lock", "l"), ("unlock", "l")])
        row = go(program, [W])
        self.assertEqual(row[3], (-1, 0))
        self.assertEqual([step for step, other in followers(program, row)], [W])
        row = go(program, [W, W], row)
        self.assertEqual(row[3], (0, -1))
        self.assertEqual(go(program, [V], row)[3], (0, 1))
        self.assertEqual(go(program, [V, V], row)[3], (0, -1))

    def test_eithers_and_loops(self):
        program = made([("either", [[], [("quiet",)], [("loop", [])]]), ("loop", [("mark", "x", 1)])])
        row = begin_row(program)
        self.assertEqual([(step, other[0]) for step, other in followers(program, row)],
                         [(("writer", 0, 0), ((1,),)), (("writer", 0, 1), ((0, 1, 0),)), (("writer", 0, 2), ((0, 2, 0),))])
        inside = go(program, [("writer", 0, 2)])
        self.assertEqual(followers(program, inside), [(("writer", 0, 0), go(program, [("writer", 0, 0)])),
                                                      (("writer", 0, 1), inside)])
        row = go(program, [("writer", 0, 0)])
        self.assertEqual([(step, other[0]) for step, other in followers(program, row)],
                         [(("writer", 0, 0), ((2,),)), (("writer", 0, 1), ((1, 0, 0),))])
        loop = made([("loop", [("quiet",)])])
        self.assertEqual(go(loop, [("writer", 0, 1), W, W]), begin_row(loop))

    def test_order_of_the_steps(self):
        program = made([("new", "x"), ("new", "y"), ("later", "y"), ("later", "x"), ("either", [[], []])], [("loop", [])], [])
        row = go(program, [W] * 4)
        expected = [("begin", "x"), ("begin", "y"), ("writer", 0, 0), ("writer", 0, 1), ("writer", 1, 0), ("writer", 1, 1)]
        self.assertEqual([step for step, other in followers(program, row)], expected)


class RanksTest(unittest.TestCase):
    def test_ranks_spread(self):
        program = made([("new", "x"), ("new", "y"), ("root", "r", "x"), ("root", "r", ""), ("ask", "p"), ("point", "x", "f", "y"),
                        ("root", "r", "y")])
        self.assertEqual(go(program, [W] * 5)[5], (0, -1))
        # An elder walker still follows the field of x.
        self.assertEqual(go(program, [W] * 6)[5], (0, 0))
        self.assertEqual(go(program, [W] * 7)[5], (0, 1))

    def test_ranks_spread_until_none_rises(self):
        body = [("new", cell) for cell in "wxyz"] + [("point", "x", "f", "w"), ("point", "y", "f", "x"), ("point", "z", "f", "y")]
        program = made(body + [("root", "r", "z")], cells="wxyz")
        self.assertEqual([go(program, [W] * many)[5] for many in (7, 8)], [(-1,) * 4, (0,) * 4])
        round_again = made(body[:7] + [("point", "w", "f", "z"), ("ask", "q"), ("root", "r", "x")], cells="wxyz")
        self.assertEqual(go(round_again, [W] * 10)[5], (1, 1, 1, 1))

    def test_asking_and_awaiting(self):
        program = made([("new", "x"), ("new", "y"), ("root", "r", "x"), ("ask", "p"), ("root", "r", "y"), ("ask", "q"),
                        ("root", "r", ""), ("ask", "o"), ("await", "p"), ("await", "q"), ("await", "o")])
        ranks = [go(program, [W] * many)[5] for many in range(3, 12)]
        expected = [(0, -1), (1, -1), (1, 1), (1, 2), (1, 2), (1, 2), (0, 1), (-1, 0), (-1, -1)]
        self.assertEqual(ranks, expected)

    def test_awaits_out_of_order(self):
        program = made([("new", "x"), ("root", "r", "x"), ("ask", "p"), ("root", "r", ""), ("ask", "q"), ("await", "q"),
                        ("await", "p"), ("free", "x")])
        self.assertEqual([go(program, [W] * many)[5:6] for many in (4, 5, 6)], [((1, -1),), ((1, -1),), ((-1, -1),)])
        early = made([("new", "x"), ("root", "r", "x"), ("ask", "p"), ("root", "r", ""), ("await", "p"), ("free", "x")])
        self.assertEqual(wrongs(early, go(early, [W] * 5)), [(W, "held", "x")])

    def test_asked_anew_forgets_the_elder_asking(self):
        program = made([("new", "x"), ("root", "r", "x"), ("ask", "p"), ("ask", "q"), ("root", "r", ""), ("ask", "p"),
                        ("await", "p"), ("free", "x")])
        rows = [go(program, [W] * many) for many in range(5, 8)]
        self.assertEqual([row[4] for row in rows], [("p", "q"), ("q", "p"), ("q",)])
        # Ranks greater than that of the forgotten asking become less by one; nobody has to leave for it.
        self.assertEqual([row[5] for row in rows], [(2, -1), (1, -1), (-1, -1)])
        self.assertEqual(len(followers(program, rows[-1])), 1)
        kept = made([("new", "x"), ("root", "r", "x"), ("root", "r", ""), ("ask", "p"), ("ask", "p")])
        self.assertEqual(go(kept, [W] * 5)[5], (0, -1))


class WrongsTest(unittest.TestCase):
    def wrong(self, body, many, **more):
        program = made(body, **more)
        row = go(program, [W] * many)
        self.assertEqual(followers(program, row), [])
        found = wrongs(program, row)
        self.assertEqual(wrongs(program, row), found)
        self.assertEqual([step for step, word, name in found], [W])
        return found[0][1:]

    def test_faults(self):
        self.assertEqual(self.wrong([("new", "x"), ("new", "x")], 1), ("fault", "x"))
        for statement in [("mark", "y", 0), ("point", "y", "f", ""), ("point", "x", "f", "y"), ("root", "r", "y"),
                          ("free", "y"), ("later", "y"), ("point", "y", "f", "z"), ("point", "y", "f", "x")]:
            self.assertEqual(self.wrong([("new", "x"), statement], 1, cells="xyz"), ("fault", "y"))
        self.assertEqual(self.wrong([("await", "q")], 0), ("fault", "q"))
        self.assertEqual(self.wrong([("ask", "q"), ("await", "q"), ("await", "q")], 2), ("fault", "q"))
        self.assertEqual(self.wrong([("lock", "l"), ("lock", "l")], 1), ("fault", "l"))
        self.assertEqual(self.wrong([("unlock", "l")], 0), ("fault", "l"))
        self.assertEqual(self.wrong([("lock", "l"), ("unlock", "l"), ("unlock", "l")], 2), ("fault", "l"))

    def test_faults_of_what_is_under_way(self):
        for statement in [("free", "x"), ("later", "x")]:
            program = made([("new", "x"), ("later", "x"), statement])
            row = go(program, [W, W])
            self.assertEqual(wrongs(program, row), [(W, "fault", "x")])
            self.assertEqual([step for step, other in followers(program, row)], [("begin", "x")])
            row = go(program, [("begin", "x")], row)
            self.assertEqual(wrongs(program, row), [(W, "fault", "x")])
            self.assertEqual([step for step, other in followers(program, row)], [("end", "x")])
            self.assertEqual(wrongs(program, go(program, [("end", "x")], row)), [(W, "fault", "x")])

    def test_an_unlock_of_anothers_lock(self):
        program = made([("lock", "l")], [("unlock", "l")])
        self.assertEqual(wrongs(program, go(program, [W])), [(V, "fault", "l")])

    def test_held(self):
        self.assertEqual(self.wrong([("new", "x"), ("root", "r", "x"), ("free", "x")], 2), ("held", "x"))
        self.assertEqual(self.wrong([("new", "x"), ("root", "r", "x"), ("root", "r", ""), ("free", "x")], 3), ("held", "x"))

    def test_an_end_is_held_behind_its_quiet_and_the_spreading(self):
        right = made([("new", "x"), ("root", "r", "x"), ("root", "r", ""), ("later", "x")])
        row = go(right, [W] * 4 + [("begin", "x")])
        self.assertEqual((row[5], wrongs(right, row)), ((0, -1), []))
        wrong = made([("new", "x"), ("root", "r", "x"), ("later", "x")])
        row = go(wrong, [W] * 3 + [("begin", "x")])
        self.assertEqual(wrongs(wrong, row), [(("end", "x"), "held", "x")])
        # y is met by walkers that began behind the quiet, and has x.
        through = made([("new", "x"), ("new", "y"), ("root", "r", "y"), ("point", "y", "f", "x"), ("later", "x")])
        row = go(through, [W] * 5 + [("begin", "x")])
        self.assertEqual(wrongs(through, row), [(("end", "x"), "held", "x")])

    def test_gone(self):
        body = [("new", "x"), ("new", "y"), ("point", "y", "f", "x"), ("free", "x"), ("root", "r", "y")]
        self.assertEqual(self.wrong(body, 4), ("gone", "y"))

    def test_the_least_cell_with_what_is_gone(self):
        body = [("new", cell) for cell in "wxyz"] + [("point", "y", "f", "x"), ("point", "z", "f", "x"), ("point", "y", "g", "z"),
                                                     ("point", "w", "f", "x"), ("free", "x"), ("root", "r", "y")]
        self.assertEqual(self.wrong(body, 9, cells="wxyz", fields="fg"), ("gone", "y"))
        body[6] = ("point", "z", "g", "y")
        body[9] = ("root", "r", "z")
        self.assertEqual(self.wrong(body, 9, cells="wxyz", fields="fg"), ("gone", "y"))

    def test_the_first_word_that_applies(self):
        # x is held, and y, which has it, is held, too.
        body = [("new", "x"), ("new", "y"), ("point", "y", "f", "x"), ("root", "r", "y"), ("free", "x")]
        self.assertEqual(self.wrong(body, 4), ("held", "x"))
        program = made([("new", "x"), ("root", "r", "x"), ("later", "x"), ("free", "x")])
        self.assertEqual(wrongs(program, go(program, [W] * 3)), [(W, "fault", "x")])

    def test_wrongs_and_followers_of_several_writers(self):
        program = made([("new", "x"), ("free", "y")], [("new", "x"), ("free", "x")], [("either", [[], []])])
        row = go(program, [W])
        self.assertEqual(wrongs(program, row), [(W, "fault", "y"), (V, "fault", "x")])
        self.assertEqual([step for step, other in followers(program, row)], [("writer", 2, 0), ("writer", 2, 1)])


class SecondTellingTest(unittest.TestCase):
    def compare(self, parts, most):
        """All rows that are reached are those that the definitions tell of, by any walkers."""
        cells, roots, bodies, fields = parts
        program = Program(cells, roots, bodies, fields=fields)
        world = World(cells, roots, fields, bodies)
        walkers = closed_walkers(world, set())[0]
        self.assertEqual(row_of(world, walkers), begin_row(program))
        line, seen = [(world, walkers)], {begin_row(program)}
        while line and len(seen) < most:
            world, walkers = line.pop()
            row, good, bad = row_of(world, walkers), [], []
            for step in world.steps():
                word, name, other, others = tried(world, walkers, step)
                if word:
                    bad.append((step, word, name))
                    continue
                behind = row_of(other, others)
                good.append((step, behind))
                if behind not in seen:
                    seen.add(behind)
                    line.append((other, others))
            self.assertEqual(followers(program, row), good)
            self.assertEqual(wrongs(program, row), bad)

    def test_random_programs(self):
        for seed in range(250):
            self.compare(random_parts(seed), 120)
            self.compare(mild_parts(seed), 120)
