"""[91] followed."""
import inspect
import unittest

from askless.errors import TooMany
from askless.followed import choice_bar, choices, choices_paper, greatest_choices, is_choices_paper, is_right_for, rows_for
from askless.machine import Machine
from askless.programs import Program
from askless.runs import is_wrong_run, wrong_of
from askless.steps import begin_row
from askless.tables import Table, is_right
from tests.drawn import hasty, linked, listed, mild, parts_of, some_programs, torn, visible
from tests.model import rows_told
from tests.test_guarantees import key_of
from tests.test_machine import attempt
from tests.values import odd_values

HASTY = Program(["x"], ["r"], [[("new", "x"), ("root", "r", "x"), ("root", "r", ""), ("free", "x")]])
ALL, NONE = (("r",), ()), ((), ())
# Who reads r comes to y, and by f to x, which is freed at once; who reads s comes to x.
TWO = Program(["x", "y"], ["s", "r"], [[("new", "x"), ("new", "y"), ("point", "y", "f", "x"), ("root", "r", "y"), ("root", "s", "x"),
                                        ("root", "s", ""), ("point", "y", "f", ""), ("free", "x")]], fields=["g", "f"])
KINDS = (mild, listed, hasty, torn, visible, linked)


class ChoicesTest(unittest.TestCase):
    def test_choices(self):
        self.assertTrue(inspect.isgeneratorfunction(choices))
        self.assertEqual(list(choices(HASTY)), [NONE, ALL])
        found = list(choices(TWO))
        self.assertEqual(found, sorted((roots, fields) for roots in [(), ("r",), ("s",), ("r", "s")] for fields in [(), ("f",), ("g",), ("f", "g")]))
        self.assertEqual((len(found), found[0], found[-1]), (16, NONE, (("s",), ("g",))))
        for choice in choices(TWO):
            break
        self.assertEqual(choice, NONE)
        self.assertEqual(len(list(choices(Program(["x"], ["r", "s"], [[]])))), 4)

    def test_all_that_there_is_to_read(self):
        for program in some_programs(10, 100, KINDS):
            whole = (tuple(program.roots()), tuple(program.fields()))
            self.assertEqual(rows_for(program, whole), Table(program).rows())
            self.assertIs(is_right_for(program, whole), is_right(program))


class RowsForTest(unittest.TestCase):
    def test_rows(self):
        self.assertEqual(rows_for(HASTY, NONE), [
            (((0,),), ((),), ("",), (), (), (-1,), ()), (((1,),), ((0, ()),), ("",), (), (), (-1,), ()),
            (((2,),), ((0, ()),), ("x",), (), (), (-1,), ()), (((3,),), ((0, ()),), ("",), (), (), (-1,), ()),
            (((4,),), ((),), ("",), (), (), (-1,), ())])
        self.assertEqual([len(rows_for(HASTY, choice)) for choice in choices(HASTY)], [5, 4])
        self.assertEqual([is_right_for(HASTY, choice) for choice in choices(HASTY)], [True, False])
        found = [choice for choice in choices(TWO) if is_right_for(TWO, choice)]
        self.assertEqual(found, [choice for choice in choices(TWO) if "s" not in choice[0] and choice not in ((("r",), ("f",)), (("r",), ("f", "g")))])

    def test_roots_and_fields_that_nobody_reads_are_gone(self):
        loose = Program(["x", "y"], ["r", "s"], [[("new", "x"), ("new", "y"), ("root", "s", "x"), ("root", "r", "y"), ("point", "y", "f", "x"),
                                                  ("free", "x")]], fields=["f", "g"])
        last = rows_for(loose, (("r",), ("g",)))[-1]
        self.assertEqual(last[1:3], (((), (0, ("?", ""))), ("y", "?")))
        self.assertEqual([is_right_for(loose, choice) for choice in [(("r",), ("g",)), (("r",), ("f",)), (("s",), ("g",)), (("r", "s"), ())]],
                         [True, False, False, False])
        self.assertEqual(wrong_of(loose, choice_bar(loose, (("r",), ("f",)))), ("freed", "x"))

    def test_limits(self):
        for call in [rows_for, is_right_for, choice_bar]:
            with self.assertRaises(TooMany) as caught:
                call(HASTY, NONE, most=4)
            self.assertEqual(caught.exception.limit, 4)
            call(HASTY, NONE, most=5)
            call(HASTY, ALL, most=4)
        for call in [greatest_choices, choices_paper]:
            with self.assertRaises(TooMany) as caught:
                call(HASTY, most=3)
            self.assertEqual(caught.exception.limit, 3)
            call(HASTY, most=5)

    def test_second_telling(self):
        """Rows, and whether a step is wrong, by the definitions, for walkers who read the choice alone."""
        found = {True: 0, False: 0}
        for number, program in enumerate(some_programs(50, 120, KINDS)):
            for k, choice in enumerate(choices(program)):
                if (k + number) % 3 and k != 0:
                    continue
                told = rows_told(parts_of(program), choice, 800)
                if told is None:
                    continue
                rows, fewest = told
                self.assertEqual(rows_for(program, choice), sorted(rows))
                self.assertIs(is_right_for(program, choice), fewest is None)
                found[fewest is None] += 1
                self.check_bar(program, choice, fewest)
        self.assertGreater(min(found.values()), 25)

    def check_bar(self, program, choice, fewest):
        run = choice_bar(program, choice)
        self.assertEqual(run is None, fewest is None)
        if run is None:
            return
        self.assertIs(is_wrong_run(program, run), True)
        self.assertEqual(len([step for step in run if step[0] in ("writer", "begin", "end")]), fewest)
        self.assertEqual(run.count(("enter",)), 0 if wrong_of(program, run)[0] == "fault" else 1)
        self.assertNotIn("leave", [step[0] for step in run])
        self.assertTrue(all(step[2] in choice[0] for step in run if step[0] == "root"))
        self.assertTrue(all(step[3] in choice[1] for step in run if step[0] == "field"))

    def test_one_walker_who_reads_the_choice_alone(self):
        many = 0
        for number, program in enumerate(some_programs(14, 25, (torn, hasty, mild))):
            for choice in list(choices(program))[number % 2::3]:
                self.assertIs(can_go_wrong(program, choice), not is_right_for(program, choice))
                many += 1
        self.assertGreater(many, 40)


def can_go_wrong(program, choice):
    """Whether some run with at most one walker, who reads the choice alone, is wrong: all of them are tried."""
    line, seen = [Machine(program)], set()
    while line:
        machine = line.pop()
        steps = machine.steps() + ([("enter",)] if ("enter",) not in machine.run() else [])
        if machine.inside():
            steps += [("leave", 0)] + [step for step in machine.reads(0) if step[-1] in choice[step[0] == "field"] and step[0] != "mark"]
        for step in steps:
            other = machine.copied()
            if attempt(other, step)[0] != "done":
                return True
            key = repr(key_of(other))
            if key not in seen:
                seen.add(key)
                line.append(other)
    return False


class PaperTest(unittest.TestCase):
    def test_greatest_choices(self):
        self.assertEqual(greatest_choices(HASTY), [NONE])
        self.assertEqual(greatest_choices(TWO), [((), ("f", "g")), (("r",), ("g",))])
        # Ascending, whatever their sizes.
        start = [("new", "x"), ("new", "y"), ("point", "y", "f", "x"), ("point", "y", "g", "x"), ("root", "r", "y"), ("point", "y", "f", "")]
        wide = TWO.with_body(0, start + [("point", "y", "g", ""), ("free", "x")])
        self.assertEqual(greatest_choices(wide), [(("r", "s"), ()), (("s",), ("f", "g"))])
        self.assertEqual([good[0] for good in choices_paper(wide)[0]], greatest_choices(wide))
        turned = TWO.with_body(0, [(*part[:1], {"r": "s", "s": "r"}[part[1]], *part[2:]) if part[0] == "root" else part for part in TWO.body(0)])
        self.assertEqual([bad[0] for bad in choices_paper(turned)[1]], [(("r",), ()), (("s",), ("f",))])
        safe = HASTY.with_body(0, [("new", "x"), ("root", "r", "x")])
        self.assertEqual(greatest_choices(safe), [ALL])
        # Where some run comes to a fault, there is none.
        self.assertEqual(greatest_choices(HASTY.with_body(0, [("free", "x")])), [])
        self.assertEqual(choices_paper(HASTY.with_body(0, [("free", "x")])), ([], [(NONE, [("writer", 0)])]))

    def test_drawn_programs(self):
        sizes = set()
        for program in some_programs(14, 120, KINDS):
            right = [choice for choice in choices(program) if is_right_for(program, choice, most=5000)]
            greatest = [one for one in right if not any(one != other and at_most(one, other) for other in right)]
            self.assertEqual(greatest_choices(program, most=5000), greatest)
            goods, bads = choices_paper(program, most=5000)
            self.assertEqual(goods, [(choice, rows_for(program, choice, most=5000)) for choice in greatest])
            wrong = [choice for choice in choices(program) if choice not in right]
            self.assertEqual([bad[0] for bad in bads], [one for one in wrong if not any(one != other and at_most(other, one) for other in wrong)])
            self.assertIs(is_choices_paper(program, goods, bads), True)
            if goods:
                self.assertIs(is_choices_paper(program, goods[1:], bads), False)
            if bads:
                self.assertIs(is_choices_paper(program, goods, bads[1:]), False)
                self.assertIs(is_choices_paper(program, goods + [(bads[0][0], goods[0][1] if goods else [])], bads), False)
            sizes.add((len(goods), len(bads)))
        self.assertGreater(len(sizes), 3)

    def test_other_papers(self):
        goods, bads = choices_paper(TWO)
        row = begin_row(TWO)
        walkers = [("enter",), ("enter",), ("leave", 1), ("root", 0, "s")]
        run = [("writer", 0)] * 5 + walkers + [("enter",), ("root", 2, "s"), ("mark", 0, 0)] + [("writer", 0)] * 3
        good = [(goods, bads), (goods[::-1], bads[::-1]), (goods * 2, bads * 2), (goods + [(NONE, rows_for(TWO, NONE))], bads),
                (goods, bads + [((("r", "s"), ("g",)), run)]), (goods, [(bad[0], tuple(bad[1])) for bad in bads])]
        at = [bad[0] for bad in bads].index((("s",), ()))
        good.append((goods, bads[:at] + [((("s",), ()), run)] + bads[at + 1:]))
        for one, other in good:
            self.assertIs(is_choices_paper(TWO, one, other), True)
        bad = [(tuple(goods), bads), (goods, tuple(bads)), (goods, []), ([], bads), ([list(goods[0])] + goods[1:], bads),
               ([(goods[0][0], goods[0][1][1:])] + goods[1:], bads), ([(goods[0][0], tuple(goods[0][1]))] + goods[1:], bads),
               ([(goods[0][0], goods[0][1] + [row[:5] + ((3, -1),) + row[6:]])] + goods[1:], bads),
               (goods + [((("s",), ()), rows_for(TWO, NONE))], bads), (goods + [((("q",), ()), goods[0][1])], bads),
               (goods + [((("r", "r"), ()), goods[0][1])], bads), (goods + [((("s", "r"), ()), goods[0][1])], bads),
               (goods + [(((), ("g", "f")), goods[0][1])], bads), (goods + [(("r", ()), goods[0][1])], bads), (goods + [((["r"], ()), goods[0][1])], bads),
               (goods + [((), goods[0][1])], bads), (goods + [(NONE + ((),), goods[0][1])], bads), (goods + [goods[0] + ([],)], bads),
               (goods, bads + [((("r",), ("f",)), run)]), (goods, bads + [(NONE, run)]), (goods, bads + [((("s",), ()), run[:-1])]),
               (goods, bads + [((("s",), ()), run + run[-1:])]), (goods, bads + [((("s",), ()), [])]), (goods, bads + [((("q",), ()), run)])]
        for one, other in bad:
            self.assertIs(is_choices_paper(TWO, one, other), False, (one, other))

    def test_rows_are_closed_for_their_walkers(self):
        """A root that nobody reads can be gone in a row, one that somebody reads cannot."""
        loose = Program(["x"], ["r", "s"], [[("new", "x"), ("root", "s", "x"), ("free", "x")]])
        goods, bads = choices_paper(loose)
        self.assertEqual([good[0] for good in goods], [(("r",), ())])
        self.assertIs(is_choices_paper(loose, goods, bads), True)
        gone = goods[0][1][-1]
        self.assertEqual(gone[2], ("", "?"))
        more = gone[:2] + (("?", ""),) + gone[3:]
        self.assertIs(is_choices_paper(loose, [(goods[0][0], goods[0][1] + [more])], bads), False)
        self.assertIs(is_choices_paper(loose, [(goods[0][0], goods[0][1] + [gone[:2] + (("", "?"),) + gone[3:]])], bads), True)
        self.assertIs(is_choices_paper(loose, goods + [(NONE, rows_for(loose, NONE) + [more])], bads), True)

    def test_a_walker_reads_what_is_gone(self):
        torn_one = Program(["x", "y"], ["r"], [[("new", "x"), ("new", "y"), ("point", "y", "f", "x"), ("free", "x"), ("root", "r", "y")]], fields=["f"])
        goods, bads = choices_paper(torn_one)
        self.assertEqual([good[0] for good in goods], [((), ("f",)), (("r",), ())])
        self.assertEqual(bads[0][1][-1], ("field", 0, 0, "f"))
        self.assertEqual(wrong_of(torn_one, bads[0][1]), ("gone", 0))
        self.assertIs(is_choices_paper(torn_one, goods, bads), True)
        self.assertIs(is_choices_paper(torn_one, goods, bads + [((("r",), ()), bads[0][1])]), False)

    def test_any_values(self):
        goods, bads = choices_paper(HASTY)
        for thing in odd_values():
            self.assertIs(is_choices_paper(HASTY, thing, bads), False)
            self.assertIs(is_choices_paper(HASTY, goods, thing), False)
            for part in [thing, (thing, goods[0][1]), (NONE, thing), ((thing, ()), goods[0][1]), (((), thing), goods[0][1]), ((("r",), (thing,)), goods[0][1]),
                         (((thing,), ()), goods[0][1]), (NONE, [thing]), (NONE, goods[0][1] + [thing])]:
                self.assertIs(is_choices_paper(HASTY, goods + [part], bads), part == goods[0])
            for part in [thing, (thing, bads[0][1]), (ALL, thing), ((("r",), thing, ()), bads[0][1]), (ALL, [thing]), (ALL, bads[0][1] + [thing])]:
                self.assertIs(is_choices_paper(HASTY, goods, bads + [part]), False)
        flat = repr(goods).replace("-1", "True").replace("0", "False")
        self.assertIs(is_choices_paper(HASTY, eval(flat), bads), False)

    def test_results_are_new(self):
        goods, bads = choices_paper(TWO)
        again = choices_paper(TWO)
        goods[0][1].clear()
        bads[0][1].clear()
        self.assertEqual(choices_paper(TWO), again)
        one, two = rows_for(TWO, NONE), rows_for(TWO, NONE)
        one.clear()
        self.assertEqual(rows_for(TWO, NONE), two)
        parts = [part[1] for part in again[0] + again[1]]
        self.assertEqual(len({id(part) for part in parts}), len(parts))


def at_most(one, other):
    return set(one[0]) <= set(other[0]) and set(one[1]) <= set(other[1])
