"""[90] laters."""
import itertools
import unittest

from askless.errors import NoPlace, NotRight, TooMany
from askless.laters import as_later, as_quiet, greatest_laters, later_bar, later_places, most_unfreed, slow_places
from askless.logs import Logs
from askless.places import all_places, statement_at
from askless.programs import Program
from askless.runs import is_run, is_wrong_run, wrong_of
from askless.tables import Table, is_right
from tests.drawn import listed, mild, parts_of, right_programs, some_programs, visible
from tests.model import rows_told
from tests.values import odd_values

AGAIN = [("new", "x"), ("root", "r", "x"), ("root", "r", ""), ("quiet",), ("free", "x")]
FREE = [("quiet",), ("free", "x")]
TWICE = Program(["x"], ["r"], [AGAIN + AGAIN])
NESTED = Program(["x", "y"], ["r"], [
    [("quiet",), ("quiet",), ("free", "y"), ("either", [[("new", "x"), ("quiet",), ("free", "x")], [("quiet",)]]), ("free", "x"),
     ("loop", [("free", "y"), ("quiet",)])], [("quiet",), ("free", "x"), ("free", "y"), ("later", "x"), ("quiet",)],
    [("loop", [("either", [[], [("later", "y")]])])]])
SLOW = [(0, (1,)), (0, (3, 0, 1)), (1, (0,))]


def at(*address):
    return (0, address)


def made(*writers, cells=("x", "y"), roots=("r",), fields=()):
    return Program(list(cells), list(roots), list(writers), fields=list(fields))


def many_slow(many):
    """A right program with so many slow frees."""
    return made([("new", "x")] + FREE + [part for turn in range(many - 1) for part in [("new", "x")] + FREE])


class PlacesTest(unittest.TestCase):
    def test_places(self):
        self.assertEqual([slow_places(NESTED), later_places(NESTED)], [SLOW, [(1, (3,)), (2, (0, 0, 0, 1, 0))]])
        self.assertEqual([slow_places(made([])), later_places(made([]))], [[], []])
        slow_places(NESTED).clear()
        later_places(NESTED).clear()
        self.assertEqual(len(slow_places(NESTED)) + len(later_places(NESTED)), 5)

    def test_as_later(self):
        places = [SLOW[1], SLOW[0]]
        changed = as_later(NESTED, places)
        self.assertEqual(places, [SLOW[1], SLOW[0]])
        self.assertEqual(changed.body(0), [("quiet",), ("later", "y"), ("either", [[("new", "x"), ("later", "x")], [("quiet",)]]), ("free", "x"),
                                           ("loop", [("free", "y"), ("quiet",)])])
        self.assertEqual(as_later(NESTED, []), NESTED)
        self.assertEqual(as_later(TWICE, [at(3), at(8)]).body(0), (AGAIN[:3] + [("later", "x")]) * 2)
        self.assertEqual(as_later(NESTED, SLOW).body(1), [("later", "x"), ("free", "y"), ("later", "x"), ("quiet",)])

    def test_as_quiet(self):
        changed = as_quiet(NESTED, (2, (0, 0, 0, 1, 0)))
        self.assertEqual(changed.body(2), [("loop", [("either", [[], [("quiet",), ("free", "y")]])])])
        self.assertEqual(as_quiet(NESTED, (1, (3,))).body(1), [("quiet",), ("free", "x"), ("free", "y"), ("quiet",), ("free", "x"), ("quiet",)])
        for place in slow_places(TWICE):
            self.assertEqual(as_quiet(as_later(TWICE, [place]), place), TWICE)

    def test_no_places(self):
        others = [(0, (0,)), (0, (2,)), (0, (6,)), (0, (99,)), (9, (0,)), (0, (3, 1, 0)), (0, (5, 0, 1)), (1, (4,)), (True, (0,)), (0, (True,)),
                  [0, (1,)], (0, [1])]
        for place in others + odd_values():
            with self.assertRaises(NoPlace) as caught:
                as_later(NESTED, [SLOW[0], place, "no place"])
            self.assertIs(caught.exception.place, place)
        for place in others + SLOW + odd_values():
            with self.assertRaises(NoPlace) as caught:
                as_quiet(NESTED, place)
            self.assertIs(caught.exception.place, place)

    def test_drawn_programs(self):
        for program in some_programs(60, 2000, (mild, listed, visible)):
            slow = [place for place in all_places(program) if word_at(program, place) == "quiet" and word_at(program, following(place)) == "free"]
            self.assertEqual(slow_places(program), slow)
            back = as_later(program, slow)
            self.assertEqual(len(later_places(back)), len(slow) + len(later_places(program)))
            for place in later_places(back)[::-1]:
                back = as_quiet(back, place)
            whole = program
            for place in later_places(program)[::-1]:
                whole = as_quiet(whole, place)
            self.assertEqual(back, whole)

    def test_a_right_program_stays_right(self):
        many = 0
        for program in right_programs(60, 120, (mild, visible)):
            for place in later_places(program):
                other = as_quiet(program, place)
                self.assertIs(is_right(other, most=5000), True)
                self.assertIs(Logs(other, most=5000).within(Logs(program)), True)
                many += 1
        self.assertGreater(many, 10)


def word_at(program, place):
    statement = statement_at(program, place) if place in all_places(program) else None
    return statement[0] if statement else ""


def following(place):
    return (place[0], place[1][:-1] + (place[1][-1] + 1,))


class BarTest(unittest.TestCase):
    def refused(self, error, call, *args, **more):
        with self.assertRaises(error) as caught:
            call(*args, **more)
        return caught.exception

    def calls(self, program, **more):
        return [lambda: later_bar(program, [("no", "place")], **more), lambda: greatest_laters(program, **more),
                lambda: most_unfreed(program, **more)]

    def test_five_and_six_slow_frees(self):
        self.assertEqual(len(slow_places(many_slow(6))), 6)
        for program in [many_slow(6), many_slow(6).with_body(0, [("free", "x")] + many_slow(6).body(0))]:
            for call in self.calls(program, most=1):
                self.assertEqual(self.refused(TooMany, call).limit, 5)
        five = many_slow(5)
        self.assertEqual(greatest_laters(five), [[at(13)]])
        self.assertEqual(most_unfreed(five), (0, []))
        self.assertEqual(greatest_laters(made([])), [[]])
        self.assertEqual(later_bar(made([]), []), None)

    def test_the_order_of_the_errors(self):
        rows = len(Table(TWICE))
        for call in self.calls(TWICE, most=rows - 1):
            self.assertEqual(self.refused(TooMany, call).limit, rows - 1)
        wrong = TWICE.with_body(0, AGAIN[:3] + AGAIN[4:])
        for call in self.calls(wrong):
            self.refused(NotRight, call)
        for call in self.calls(wrong, most=1):
            self.refused(TooMany, call)
        self.assertEqual(self.refused(NoPlace, later_bar, TWICE, [at(3), at(0)], most=rows).place, at(0))
        # With a later there are more rows.
        wide = made([("new", "x")] + FREE + [("new", "y"), ("mark", "y", 1), ("root", "r", "y")])
        further = len(Table(as_later(wide, [at(1)])))
        self.assertGreater(further, len(Table(wide)))
        for call in [lambda **more: later_bar(wide, [at(1)], **more), lambda **more: greatest_laters(wide, **more)]:
            self.assertEqual(self.refused(TooMany, call, most=further - 1).limit, further - 1)
        self.assertIs(later_bar(wide, [at(1)], most=further), None)
        self.assertEqual(greatest_laters(wide, most=further), [[at(1)]])
        self.assertEqual(most_unfreed(wide, most=len(Table(wide))), (0, []))

    def test_words(self):
        self.assertEqual(later_bar(TWICE, [at(3)]), ("fault", [("writer", 0)] * 5))
        # The quiet that one cell needs has served for another one, too.
        body = [("new", "x"), ("new", "y"), ("root", "r", "x"), ("root", "s", "y"), ("root", "r", ""), ("root", "s", "")] + FREE
        freed = made(body + [("free", "y")], roots=["r", "s"])
        gone = made([("new", "w"), ("new", "x"), ("new", "y"), ("new", "z"), ("point", "z", "f", "y"), ("free", "y"), ("root", "r", "w"),
                     ("root", "r", "")] + FREE + [("point", "w", "f", "z")], cells=["w", "x", "y", "z"], fields=["f"])
        for program, word in [(freed, "freed"), (gone, "gone")]:
            self.assertIs(is_right(program), True)
            found = later_bar(program, slow_places(program))
            self.assertEqual(found[0], word)
            self.check_bar(as_later(program, slow_places(program)), found)
            self.assertEqual(greatest_laters(program), [[]])

    def test_drawn_programs(self):
        words = set()
        for program in right_programs(150, 150, (mild, listed, visible)):
            for place in slow_places(program) if len(slow_places(program)) <= 5 else []:
                try:
                    found = later_bar(program, [place], most=3000)
                except TooMany:
                    continue
                self.check_bar(as_later(program, [place]), found)
                words.add(found[0] if found else "")
        self.assertTrue({"", "fault", "freed"} <= words, words)

    def check_bar(self, changed, found):
        fewest = Table(changed, most=3000).fewest
        self.assertEqual(found is None, fewest is None)
        if found is not None:
            word, run = found
            self.assertEqual(type(found), tuple)
            self.assertIs(is_wrong_run(changed, run), True)
            self.assertEqual(wrong_of(changed, run)[0], word)
            deeds = [step for step in run if step[0] in ("writer", "begin", "end")]
            self.assertEqual(len(deeds), fewest)
            self.assertEqual(run.count(("enter",)), 0 if word == "fault" else 1)

    def test_greatest_sets(self):
        self.assertEqual(greatest_laters(TWICE), [[at(8)]])
        body = [("new", "x"), ("new", "y")] + FREE + [("quiet",), ("free", "y")]
        self.assertEqual(greatest_laters(made(body)), [[at(2), at(4)]])
        # One quiet has to be left for a third cell, whichever it is.
        third = [("new", "z"), ("root", "r", "z"), ("root", "r", "")]
        self.assertEqual(greatest_laters(made(third + body + [("free", "z")], cells=["x", "y", "z"])), [[at(5)], [at(7)]])
        many = 0
        for program in right_programs(80, 100, (mild, listed, visible)):
            slow = slow_places(program)
            if not 0 < len(slow) <= 5:
                continue
            sets = [chosen for size in range(len(slow) + 1) for chosen in itertools.combinations(slow, size)]
            told = {chosen: rows_told(parts_of(as_later(program, list(chosen))), most=600) for chosen in sets}
            if None in told.values():
                continue
            right = [set(chosen) for chosen in sets if told[chosen][1] is None]
            greatest = sorted(sorted(one) for one in right if not any(one < other for other in right))
            self.assertEqual(greatest_laters(program), greatest)
            many += len(greatest[0]) < len(slow)
        self.assertGreater(many, 5)

    def test_most_unfreed(self):
        both = made([("new", "x"), ("new", "y"), ("later", "x"), ("later", "y")])
        self.assertEqual(most_unfreed(both), (2, [("writer", 0)] * 4))
        self.assertEqual(most_unfreed(TWICE), (0, []))
        self.assertEqual(most_unfreed(as_later(TWICE, [at(8)])), (1, [("writer", 0)] * 10))
        found = most_unfreed(both)[1]
        found.clear()
        self.assertEqual(len(most_unfreed(both)[1]), 4)
        greatest = set()
        for program in right_programs(100, 150, (mild, visible)):
            if len(slow_places(program)) > 5:
                continue
            many, run = most_unfreed(program)
            costs = rows_told(parts_of(program))[0]
            numbers = {row: len(row[6]) + sum(name[0] == "~" for name in row[4]) for row in costs}
            self.assertEqual(many, max(numbers.values()))
            self.assertEqual(len(run), min(costs[row] for row in costs if numbers[row] == many))
            self.assertIs(is_run(program, run), True)
            self.assertTrue(all(step[0] in ("writer", "begin", "end") for step in run))
            greatest.add(many)
        self.assertTrue({0, 1} <= greatest)

    def test_arguments_stay(self):
        places = [at(8)]
        for call in [lambda: later_bar(TWICE, places), lambda: as_later(TWICE, places), lambda: greatest_laters(TWICE)]:
            one, two = call(), call()
            self.assertEqual((one, places), (two, [at(8)]))
        found = greatest_laters(TWICE)
        found[0].clear()
        self.assertEqual(greatest_laters(TWICE), [[at(8)]])
