"""[102] desks."""
import random
import unittest

from askless.along import wrong_run
from askless.book import Book
from askless.desk import Desk
from askless.errors import BadStatement, Full, NoCommand, NoPlace, NotRight, Nothing, TooMany, Wrong
from askless.logs import Logs
from askless.notation import read_program, read_run, show_program, show_statement
from askless.programs import Program
from askless.runs import is_wrong_run
from askless.tables import Table
from tests.drawn import hasty, listed, mild, some_programs, visible
from tests.test_book import drawn_deed
from tests.test_notation import deep
from tests.values import odd_values

START = Program(["x"], ["r"], [[("new", "x"), ("root", "r", "x"), ("root", "r", ""), ("quiet",), ("free", "x")]])
BIG = 10 ** 39
COMMANDS = ["put 0@0 quiet", "put 0@5 either\n  quiet\nor", "behind 0@0 1 mark x 0", "change 0@1.0.0 loop\n  quiet", "take 0@1.0.0", "back", "again", "show",
            "log", "right", "run", "logs 0", "logs 20"]


def line_of(deed):
    """The line of a deed."""
    place = f"{deed[1][0]}@" + ".".join(map(str, deed[1][1]))
    middle = [str(deed[2])] if deed[0] == "behind" else []
    return " ".join([deed[0], place] + middle + ([] if deed[0] == "take" else [show_statement(deed[-1])]))


class DeskTest(unittest.TestCase):
    def refused(self, error, desk, line):
        with self.assertRaises(error) as caught:
            desk.execute(line)
        return caught.exception

    def test_a_program(self):
        for thing in odd_values() + [Book(START), Desk(START)]:
            with self.assertRaises(Wrong) as caught:
                Desk(thing)
            self.assertEqual(caught.exception.place, 0)

    def test_deeds(self):
        desk = Desk(START)
        told = []
        for line in ["put 0@0 quiet", "put 0@6 either\n  quiet\nor\n  mark x 3", "behind 0@6 1 loop\n  quiet", "put 0@6.1.0 root r -", "change 0@6.0.0 new x",
                     "take 0@0", "put 0@6 ask q"]:
            self.assertEqual(desk.execute(line), "ok")
            told.append(line + "\n")
            self.assertEqual(desk.execute("log"), "".join(told))
        text = ("cells x\nroots r\nfields\nwriter\n  new x\n  root r x\n  root r -\n  quiet\n  free x\n  either\n    new x\n  or\n    root r -\n    mark x 3\n"
                "    loop\n      quiet\n  ask q\n")
        self.assertEqual(desk.execute("show"), text)
        self.assertEqual([desk.execute("back"), desk.execute("back"), desk.execute("again")], ["put 0@6 ask q", "take 0@0", "take 0@0"])
        for k in range(6):
            self.assertEqual(desk.execute("back") + "\n", told[5 - k])
        self.refused(Nothing, desk, "back")
        self.assertEqual([desk.execute("show"), desk.execute("log")], [show_program(START), ""])
        for k in range(7):
            self.assertEqual(desk.execute("again") + "\n", told[k])
        self.refused(Nothing, desk, "again")
        self.assertEqual(desk.execute("show"), text)

    def test_answers(self):
        desk = Desk(START)
        self.assertEqual([desk.execute(line) for line in ["right", "run", "logs 0", "logs 1", "logs 2"]], ["right 7", "none", "1", "2", "5"])
        desk.execute("take 0@3")
        self.assertEqual([desk.execute("right"), desk.execute("run")], ["wrong 4", "writer 0\nwriter 0\nenter\nroot 0 r\nwriter 0\nwriter 0"])
        for line in ["logs 0", "logs 20"]:
            self.refused(NotRight, desk, line)
        desk.execute("back")
        self.assertEqual(desk.execute("logs 20"), str(Logs(START).count(20)))
        many = Program(["x"], ["r"], [[("quiet",)] * 30] * 3)
        for line in ["right", "run", "logs 3"]:
            self.assertEqual(self.refused(TooMany, Desk(many), line).limit, 1000)
        self.assertEqual(Desk(many).execute("show"), show_program(many))

    def test_errors_of_the_book(self):
        desk = Desk(START)
        for line, place in [("take 0@5", (0, (5,))), ("take 1@0", (1, (0,))), (f"take {10 * BIG - 1}@{BIG}", (10 * BIG - 1, (BIG,))), ("put 0@0.0.0 quiet", (0, (0, 0, 0))),
                            ("put 0@6 new q", (0, (6,))), ("behind 0@0 0 quiet", (0, (0,))), (f"behind 0@0 {BIG} new q", (0, (0,))), ("change 0@5 quiet", (0, (5,)))]:
            self.assertEqual(self.refused(NoPlace, desk, line).place, place)
        for line in ["put 0@0 new q", "put 0@0 root s -", "change 0@0 loop\n  new q"]:
            error = self.refused(BadStatement, desk, line)
            self.assertEqual((error.writer, error.address), (0, (0, 0, 0) if "loop" in line else (0,)))
        self.assertEqual(self.refused(Full, desk, "put 0@0 loop" + "\n  quiet" * 7).limit, 12)
        for turn in range(30):
            desk.execute("put 0@0 quiet")
            desk.execute("take 0@0")
        for line in ["take 0@0", "take 9@9", "put 0@0 new q"]:
            self.assertEqual(self.refused(Full, desk, line).limit, 60)
        self.assertEqual([desk.execute("show"), desk.execute("log")], [show_program(START), "put 0@0 quiet\ntake 0@0\n" * 30])

    def test_no_commands(self):
        desk = Desk(START)
        desk.execute("put 0@0 quiet")
        desk.execute("back")
        ahead = (desk.execute("show"), desk.execute("log"))
        bad = ["", " ", "back ", " back", "back\n", "Back", "backs", "again 1", "show ", "log\n", "logs", "logs ", "logs 21", "logs 00", "logs 01", "logs -1", "logs +1",
               "logs 1 ", "logs  1", "logs 1\n", "logs x", "logs " + "1" * 41, "logs " + "9" * 100000, "right 1", "run ", "take", "take ", "take 0", "take 0@", "take @0",
               "take 0@0 ", "take 0@0 quiet", "take  0@0", "take 0@0.0", "take 0@0.0.0.0", "take 0@0.", "take 0@.0.0", "take 0@0..0", "take 00@0", "take 0@00", "take 0@01",
               "take 0@-1", "take -1@0", "take 0@0@0", "take 0 0", "take 0@0\n", "take 0@x", "take 0@ 0", "take 0 @0", f"take {10 * BIG}@0", f"take 0@{10 * BIG}",
               "put 0@0", "put 0@0 ", "put 0@0  quiet", "put 0@0 quiet ", "put 0@0 quiet\n", "put 0@0\nquiet", "put 0@0 new X", "put 0@0 either\nnew x", "put 0@0 or",
               "put 0@0 mark x 4", "put 0@0.1 quiet", "put quiet", "put 0@0 0 quiet", "puts 0@0 quiet", "change 0@0", "change 0@0 0 quiet", "behind 0@0 quiet", "behind 0@0 0",
               "behind 0@0 0 ", "behind 0@0 00 quiet", "behind 0@0 -1 quiet", "behind 0@0  0 quiet", "behind 0@0 0  quiet", f"behind 0@0 {10 * BIG} quiet", "behind 0@0 x quiet",
               "new x", "quiet", "do", "until 0", "tried", "put 0@0 copy x y", "take \u0661@0", "put 0@0 " + " " * 201 + "quiet", "put 0@0 loop\n" + " " * 202 + "quiet"]
        for line in bad + odd_values() + [b"back", ["back"], ("back",), "put 0@0 " * 100000, "take 0@" + "0." * 300000, "0" * 1000000]:
            self.assertEqual(vars(self.refused(NoCommand, desk, line)), {})
        self.assertEqual((desk.execute("show"), desk.execute("log"), desk.execute("again")), (*ahead, "put 0@0 quiet"))

    def test_blanks_ahead(self):
        """Lines with 200 blanks ahead are read; what is refused then is the many statements."""
        desk = Desk(START)
        self.assertEqual(self.refused(Full, desk, "put 0@0 " + show_statement(deep(101))).limit, 12)
        self.refused(NoCommand, desk, "put 0@0 " + show_statement(deep(102)))
        self.refused(NoCommand, desk, "put 0@0 " + show_statement(deep(101)).replace(" " * 200, " " * 201))
        self.assertEqual(desk.execute("put 0@0 " + show_statement(deep(7))), "ok")
        self.assertEqual(self.refused(NoPlace, desk, "take 0@" + ".".join(["0"] * 100001)).place, (0, (0,) * 100001))

    def test_commands_with_one_sign_otherwise(self):
        for line in COMMANDS:
            for k in range(len(line)):
                for other in [line[:k] + line[k + 1:]] + [line[:k] + letter + line[k + keep:] for letter in " \n0@.x" for keep in (0, 1)]:
                    self.check_line(other)

    def check_line(self, line):
        """What is a line leads to what the functions and the Book make of it."""
        desk = Desk(START)
        try:
            answer = desk.execute(line)
        except (NoCommand, NoPlace, BadStatement, Nothing, Full):
            self.assertEqual(desk.execute("log"), "")
            return
        if answer == "ok":
            self.assertEqual(desk.execute("log"), line + "\n")
            self.assertEqual(desk.execute("back"), line)
        else:
            self.assertTrue(line in ("show", "log", "right", "run") or line in ["logs " + str(many) for many in range(21)])

    def test_led_by_the_same_deeds_as_a_book(self):
        done = 0
        for seed in range(25):
            rng, book, desk = random.Random(seed), Book(START), Desk(START)
            for turn in range(30):
                kind = rng.random()
                if kind < 0.3:
                    name = rng.choice(["back", "again"])
                    one = outcome(lambda: line_of(getattr(book, name)()))
                    self.assertEqual(outcome(lambda: desk.execute(name)), one)
                else:
                    deed = drawn_deed(rng, book.program())
                    if deed[0] != "take" and deed[-1] is None:
                        continue
                    one = outcome(lambda: book.do(deed) or "ok")
                    self.assertEqual(outcome(lambda: desk.execute(line_of(deed))), one)
                    done += one == "ok"
                self.assertEqual(desk.execute("show"), show_program(book.program()))
                self.assertEqual(desk.execute("log"), "".join(line_of(deed) + "\n" for deed in book.log()))
        self.assertGreater(done, 150)

    def test_answers_on_drawn_programs(self):
        for program in some_programs(12, 150, (mild, listed, hasty, visible)):
            desk, table = Desk(program), Table(program)
            self.assertEqual(desk.execute("show"), show_program(program))
            self.assertEqual(read_program(desk.execute("show")), program)
            self.assertEqual(desk.execute("right"), f"right {len(table)}" if table.is_safe else f"wrong {table.fewest}")
            if table.is_safe:
                self.assertEqual([desk.execute("run"), desk.execute("logs 3")], ["none", str(Logs(program).count(3))])
            else:
                run = read_run(desk.execute("run") + "\n")
                self.assertIs(is_wrong_run(program, run), True)
                self.assertEqual(run, wrong_run(program))

    def test_desks_go_on_by_themselves(self):
        body = [("new", "x")]
        program = Program(["x"], ["r"], [body])
        one, two = Desk(program), Desk(program)
        body.append(("quiet",))
        one.execute("take 0@0")
        self.assertEqual([one.execute("log"), two.execute("log"), program.body(0)], ["take 0@0\n", "", [("new", "x")]])


def outcome(call):
    try:
        return call()
    except ValueError as error:
        return [error.__class__, vars(error)]
