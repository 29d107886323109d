"""[100] books, and [12] that the program of a book is the one to which its deeds lead."""
import copy
import random
import unittest

from askless.book import Book
from askless.errors import BadStatement, Broken, Full, NoDeed, NoEntry, NoPlace, Nothing, Wrong
from askless.places import all_places, left_out, put_behind, put_in, statement_at
from askless.programs import Program
from askless.statements import count
from tests.values import nested, odd_values

BIG = 10 ** 39
BODY = [("new", "x"), ("either", [[("mark", "x", 1)], []]), ("loop", [("root", "r", "x")])]
START = Program(["x", "y"], ["r"], [BODY, []], fields=["f"])
QUIET = ("quiet",)
DEEDS = [("put", (0, (0,)), QUIET), ("put", (0, (4,)), ("new", "y")), ("behind", (0, (2,)), 1, ("point", "x", "f", "x")),
         ("take", (0, (1,))), ("change", (1, (0,)), QUIET), ("put", (1, (0,)), ("loop", [("either", [[], [QUIET]])]))]


def at(*address):
    return (0, address)


class DoTest(unittest.TestCase):
    def refused(self, error, call, *args):
        with self.assertRaises(error) as caught:
            call(*args)
        return caught.exception

    def test_a_program(self):
        book = Book(START)
        self.assertEqual([book.program(), book.log(), len(book), book.until(0)], [START, [], 0, START])
        for thing in odd_values() + [Book(START), BODY, Program]:
            self.assertEqual(self.refused(Wrong, Book, thing).place, 0)

    def test_deeds(self):
        book = Book(START)
        self.assertIs(book.do(("put", at(0), QUIET)), None)
        self.assertEqual(book.program().body(0), [QUIET] + BODY)
        book.do(("put", at(4), ("new", "y")))
        self.assertEqual(book.program().body(0)[3:], [BODY[2], ("new", "y")])
        book.do(("behind", at(2), 1, ("point", "x", "f", "x")))
        self.assertEqual(book.program().body(0)[2], ("either", [[("mark", "x", 1)], [("point", "x", "f", "x")]]))
        book.do(("behind", at(3), 0, QUIET))
        self.assertEqual(book.program().body(0)[3], ("loop", [("root", "r", "x"), QUIET]))
        book.do(("put", at(3, 0, 1), ("mark", "x", 0)))
        self.assertEqual(book.program().body(0)[3], ("loop", [("root", "r", "x"), ("mark", "x", 0), QUIET]))
        book.do(("take", at(3, 0, 0)))
        book.do(("take", at(0)))
        book.do(("change", at(2), ("loop", ())))
        self.assertEqual(book.program().body(0), [BODY[0], ("either", [[("mark", "x", 1)], [("point", "x", "f", "x")]]), ("loop", []), ("new", "y")])
        book.do(("put", (1, (0,)), QUIET))
        self.assertEqual([book.program().body(1), len(book)], [[QUIET], 9])
        # Exchanged for an equal one, which is a deed, too.
        book.do(("change", (1, (0,)), QUIET))
        self.assertEqual([book.program().body(1), len(book), len(book.log())], [[QUIET], 10, 10])

    def test_no_deeds(self):
        book = Book(START)
        place = at(0)
        bad = [("put", place), ("put", place, QUIET, QUIET), ("take", place, QUIET), ("take",), ("change", place), ("behind", place, QUIET),
               ("behind", place, True, QUIET), ("behind", place, "0", QUIET), ("behind", place, None, QUIET), ["put", place, QUIET],
               ("put", list(place), QUIET), ("put", (0, [0]), QUIET), ("put", (True, (0,)), QUIET), ("put", (0, (False,)), QUIET), ("put", (0,), QUIET),
               ("put", (0, (0,), 0), QUIET), ("put", ("0", (0,)), QUIET), ("put", (0, ("0",)), QUIET), ("put", (0, 0), QUIET), ("puts", place, QUIET),
               ("Put", place, QUIET), (0, place, QUIET), ("take", None), ("get", place), ((),), ("put", (0, ((0,),)), QUIET)]
        for deed in bad + odd_values():
            self.refused(NoDeed, book.do, deed)
            self.refused(NoDeed, book.do, ("put", deed, QUIET))
            if deed not in (BIG, -BIG, -1):
                self.refused(NoDeed, book.do, ("behind", place, deed, QUIET))
                self.refused(NoDeed, book.do, ("take", (0, (0, deed))))
                self.refused(NoDeed, book.do, ("change", (deed, (0,)), QUIET))
        self.assertEqual((book, len(book)), (Book(START), 0))

    def test_no_places(self):
        book = Book(START)
        for place in [at(4), at(-1), at(), (2, (0,)), (-1, (0,)), (BIG, (0,)), at(BIG), at(-BIG), at(1, 1, 0), at(1, 0, 1), at(1, 2, 0), at(0, 0, 0),
                      at(1, 0), (1, (1,)), (0, (0,) * 1000000)]:
            for deed in [("put", place, QUIET), ("take", place), ("change", place, QUIET), ("behind", place, 0, QUIET), ("put", place, None)]:
                self.assertIs(self.refused(NoPlace, book.do, deed).place, place)
        for place in [at(3), (1, (0,))]:
            for deed in [("take", place), ("change", place, QUIET), ("behind", place, 0, QUIET)]:
                self.assertIs(self.refused(NoPlace, book.do, deed).place, place)
        for place, b in [(at(0), 0), (at(1), 2), (at(1), -1), (at(1), BIG), (at(2), 1), (at(1, 0, 0), 0)]:
            self.assertIs(self.refused(NoPlace, book.do, ("behind", place, b, QUIET)).place, place)

    def test_bad_statements(self):
        book = Book(START)
        for thing in odd_values() + [("new", "z"), ("root", "x", ""), ("point", "x", "g", ""), ("mark", "x", True), ["quiet"], ("loop", None)]:
            for deed, address in [(("put", at(1), thing), (1,)), (("change", at(1, 0, 0), thing), (1, 0, 0)), (("behind", at(1), 1, thing), (1, 1, 0)),
                                  (("put", at(3), thing), (3,))]:
                error = self.refused(BadStatement, book.do, deed)
                self.assertEqual((error.writer, error.address), (0, address))
        self.assertEqual(self.refused(BadStatement, book.do, ("put", at(0), ("loop", [QUIET, ("loop", [("new", "q")])]))).address, (0, 0, 1, 0, 0))
        error = self.refused(BadStatement, book.do, ("put", (1, (0,)), ("loop", nested(58))))
        self.assertEqual((error.writer, error.address), (1, (0, 0, 0)))
        self.assertEqual(book, Book(START))

    def test_twelve_statements(self):
        book = Book(START)
        for turn in range(7):
            book.do(("put", at(0), QUIET))
        self.assertEqual(sum(count(part) for part in book.program().body(0)), 12)
        for deed in [("put", at(0), QUIET), ("behind", at(8), 0, QUIET), ("change", at(0), ("loop", [QUIET])), ("change", at(9), ("loop", [QUIET] * 2))]:
            self.assertEqual(self.refused(Full, book.do, deed).limit, 12)
        # Bad statements come ahead of this.
        self.refused(BadStatement, book.do, ("put", at(0), ("new", "q")))
        self.refused(NoPlace, book.do, ("put", at(20), QUIET))
        for deed in [("change", at(0), ("new", "y")), ("put", (1, (0,)), ("loop", [("either", [[QUIET] * 5, [QUIET] * 5])])), ("change", at(9), ("loop", [QUIET]))]:
            book.do(deed)
        self.assertEqual(len(book), 10)
        self.assertEqual(self.refused(Full, book.do, ("put", (1, (0,)), QUIET)).limit, 12)
        book.do(("take", at(0)))
        book.do(("put", at(0), QUIET))

    def test_a_begin_with_more_statements(self):
        book = Book(Program(["x"], ["r"], [[QUIET] * 14, []]))
        self.assertEqual(self.refused(Full, book.do, ("put", at(0), QUIET)).limit, 12)
        book = Book(Program(["x"], ["r"], [[QUIET] * 13, []]))
        book.do(("take", at(0)))
        self.assertEqual(self.refused(Full, book.do, ("put", at(0), QUIET)).limit, 12)

    def test_sixty_deeds(self):
        book = Book(START)
        for turn in range(30):
            book.do(("put", at(0), QUIET))
            book.do(("take", at(0)))
        self.assertEqual((len(book), book.program()), (60, START))
        for deed in [("put", at(0), QUIET), ("take", at(0)), ("take", at(99)), ("put", at(0), None), ("put", at(0), ("loop", [QUIET] * 13))]:
            self.assertEqual(self.refused(Full, book.do, deed).limit, 60)
        self.refused(NoDeed, book.do, ("take", 0))
        self.assertEqual(book.back(), ("take", at(0)))
        self.assertEqual(book.again(), ("take", at(0)))
        self.refused(Full, book.do, ("take", at(0)))
        book.back()
        book.do(("take", at(1)))
        self.assertEqual(len(book), 60)

    def test_items(self):
        book = Book(START)
        self.assertEqual([book[at(0)], book[at(1)], book[at(1, 0, 0)], book[at(2, 0, 0)]], [BODY[0], BODY[1], ("mark", "x", 1), ("root", "r", "x")])
        for place in odd_values() + [at(3), (1, (0,)), at(1, 1, 0), at(4), (2, (0,)), [0, (0,)], (0, [0]), (True, (0,)), (0, (False,)), (False, (0,))]:
            self.assertIs(self.refused(NoPlace, book.__getitem__, place).place, place)
        book[at(0)] = ("new", "y")
        self.assertEqual([book[at(0)], book.log()], [("new", "y"), [("change", at(0), ("new", "y"))]])
        self.assertIs(self.refused(NoPlace, book.__setitem__, at(3), QUIET).place.__class__, tuple)
        for place in [None, 0, (0, 0), [0, (0,)], (True, (0,))]:
            self.refused(NoDeed, book.__setitem__, place, QUIET)
        self.assertEqual(self.refused(BadStatement, book.__setitem__, at(0), None).address, (0,))
        self.assertEqual(self.refused(Full, book.__setitem__, at(0), ("loop", [QUIET] * 12)).limit, 12)
        self.assertEqual(len(book), 1)
        with self.assertRaises(TypeError):
            iter(book)


class BackTest(unittest.TestCase):
    def refused(self, error, call, *args):
        with self.assertRaises(error) as caught:
            call(*args)
        return caught.exception

    def led(self, deeds):
        book = Book(START)
        for deed in deeds:
            book.do(deed)
        return book

    def test_back_and_again(self):
        deeds = [("put", at(0), QUIET), ("take", at(1)), ("put", at(0), ("either", ((QUIET,), ())))]
        told = deeds[:2] + [("put", at(0), ("either", [[QUIET], []]))]
        book = self.led(deeds)
        programs = [book.until(many) for many in range(4)]
        self.assertEqual(book.log(), told)
        self.refused(Nothing, book.again)
        for k in (2, 1, 0):
            self.assertEqual(book.back(), told[k])
            self.assertEqual([book.program(), len(book), book.log()], [programs[k], k, told[:k]])
        self.refused(Nothing, book.back)
        for k in (0, 1, 2):
            self.assertEqual(book.again(), told[k])
            self.assertEqual([book.program(), book.log(), book.until(k)], [programs[k + 1], told[:k + 1], programs[k]])
        self.refused(Nothing, book.again)
        book.back()
        book.back()
        for deed in [("take", at(9)), ("take",), ("put", at(0), None)]:
            with self.assertRaises(ValueError):
                book.do(deed)
        self.assertEqual(book.again(), told[1])
        book.do(("take", at(0)))
        self.refused(Nothing, book.again)

    def test_until(self):
        book = self.led(DEEDS[:3])
        for many in odd_values() + [4, -1, BIG, "0", (0,), True, False]:
            error = self.refused(NoEntry, book.until, many)
            self.assertIs(error.many, many)
        self.assertEqual(book.until(3), book.program())

    def test_copies_and_equal_books(self):
        book = self.led(DEEDS[:3])
        book.back()
        other = book.copied()
        self.assertEqual([other == book, book == other, other.again()], [True, True, DEEDS[2]])
        self.assertNotEqual(other, book)
        self.assertEqual([len(book), len(other)], [2, 3])
        other.back()
        other.do(DEEDS[2])
        self.assertEqual(book.again(), DEEDS[2])
        self.assertEqual(book, other)
        # Other begins, or the same program by other deeds.
        self.assertNotEqual(Book(START), Book(START.with_body(1, [QUIET])))
        self.assertEqual(Book(START), Book(Program(["x", "y"], ["r"], [BODY, []], fields=["f"])))
        self.assertNotEqual(self.led([DEEDS[0]]), Book(self.led([DEEDS[0]]).program()))
        self.assertNotEqual(self.led([("put", at(0), QUIET), ("take", at(0))]), Book(START))
        self.assertEqual(self.led([("put", at(0), ("loop", ()))]), self.led([("put", at(0), ("loop", []))]))
        self.assertFalse(any([book == thing for thing in odd_values() + [START, book.log()]]))

    def test_tried(self):
        book = self.led(DEEDS[:1])
        more = [("put", at(0), QUIET), ("take", at(0))]
        found = book.tried(more)
        self.assertEqual([len(book), len(found), found.log(), more], [1, 3, DEEDS[:1] + more, [("put", at(0), QUIET), ("take", at(0))]])
        self.assertEqual(book.tried([]), book)
        self.assertIsNot(book.tried([]), book)
        book.back()
        self.assertEqual(book.tried([]).again(), DEEDS[0])
        self.refused(Nothing, book.tried([("put", at(0), QUIET)]).again)
        self.assertEqual(book.again(), DEEDS[0])
        for thing in odd_values() + [tuple(more), more[0], book]:
            if not isinstance(thing, list):
                self.assertEqual(self.refused(Wrong, book.tried, thing).place, 0)
        for deeds, where, cause, fields in [
                ([None], 0, NoDeed, {}), (more + [("take", at(9))], 2, NoPlace, {"place": at(9)}), ([("put", at(0), ("new", "q"))], 0, BadStatement,
                                                                                                 {"writer": 0, "address": (0,)}),
                (more[:1] * 9, 7 - 1, Full, {"limit": 12}), (more * 30, 59, Full, {"limit": 60}), ([0] * 1000000, 0, NoDeed, {})]:
            error = self.refused(Broken, book.tried, deeds)
            self.assertEqual((error.at, error.__cause__.__class__, vars(error.__cause__)), (where, cause, fields))
        self.assertEqual((book.log(), book.program()), (DEEDS[:1], self.led(DEEDS[:1]).program()))

    def test_block(self):
        book = self.led(DEEDS[:2])
        book.back()
        ahead = book.copied()

        def act(other):
            self.assertIs(other, book)
            other.do(("put", (1, (0,)), QUIET))
            return [other.program()]
        self.assertEqual(book.block(act), [self.led(DEEDS[:1] + [("put", (1, (0,)), QUIET)]).program()])
        self.assertEqual(len(book), 2)
        self.refused(Nothing, book.again)
        self.assertIs(ahead.block(lambda other: None), None)
        self.assertEqual(ahead.again(), DEEDS[1])
        ahead.back()

        class Own(BaseException):
            pass
        for error in [KeyError, Own, ZeroDivisionError, KeyboardInterrupt, GeneratorExit, StopIteration, NoDeed, Full(3), NoPlace(1)]:
            for many in range(4):
                def fail(other):
                    for turn in range(many):
                        other.do(("put", (1, (0,)), QUIET))
                    other.back() if len(other) else None
                    raise error
                with self.assertRaises(error if isinstance(error, type) else error.__class__) as caught:
                    ahead.block(fail)
                if not isinstance(error, type):
                    self.assertIs(caught.exception, error)
                self.assertEqual((ahead.log(), ahead.program()), (DEEDS[:1], self.led(DEEDS[:1]).program()))
                self.assertEqual(ahead.again(), DEEDS[1])
                ahead.back()
        with self.assertRaises(TypeError):
            ahead.block(lambda: None)
        self.refused(NoDeed, ahead.block, lambda other: other.do(None))

    def test_blocks_in_blocks(self):
        book = Book(START)

        def inner(other):
            other.do(("put", at(0), QUIET))
            raise KeyError("inner")

        def outer(other):
            other.do(("take", at(0)))
            try:
                other.block(inner)
            except KeyError:
                return len(other)
        self.assertEqual(book.block(outer), 1)
        self.assertEqual(book.log(), [("take", at(0))])

    def test_what_is_passed_and_returned(self):
        body = [QUIET]
        deed = ("put", at(0), ("loop", body))
        kept = copy.deepcopy(deed)
        book = self.led([deed])
        self.assertEqual(deed, kept)
        body.append(QUIET)
        self.assertEqual(book[at(0)], ("loop", [QUIET]))
        for thing in [book[at(0)], book.log()[0][2], book.back()[2], book.again()[2], book.program().body(0)[0]]:
            thing[1].append("more")
        book.log().clear()
        self.assertEqual([book[at(0)], book.log(), book.back(), book.again()], [("loop", [QUIET]), [kept], kept, kept])
        bodies = [BODY, []]
        other = Book(Program(["x", "y"], ["r"], bodies, fields=["f"]))
        self.assertEqual(other.program(), START)
        found = self.led([("put", at(0), ("loop", [])), ("put", at(0), ("loop", []))]).log()
        self.assertIsNot(found[0][2][1], found[1][2][1])
        deeds = list(DEEDS[:2])
        led = Book(START).tried(deeds)
        deeds.clear()
        self.assertEqual(len(led), 2)


class LedTest(unittest.TestCase):
    def test_the_program_is_the_one_to_which_the_deeds_lead(self):
        """[12] A book, and the functions of places, led by the same deeds come to the same program."""
        refused = set()
        for seed in range(60):
            rng, book, programs, undone = random.Random(seed), Book(START), [START], []
            for turn in range(40):
                if rng.random() < 0.2 and len(programs) > 1:
                    book.back()
                    undone.append(programs.pop())
                elif rng.random() < 0.2 and undone:
                    book.again()
                    programs.append(undone.pop())
                else:
                    deed = drawn_deed(rng, programs[-1])
                    behind = led(programs[-1], deed)
                    many = [sum(count(part) for part in behind.body(writer)) for writer in (0, 1)] if isinstance(behind, Program) else [0]
                    if max(many) > 12:
                        behind = Full
                    if len(programs) > 60:
                        behind = Full
                    try:
                        book.do(deed)
                    except (NoPlace, BadStatement, Full) as error:
                        self.assertIs(error.__class__, behind)
                        refused.add(behind)
                    else:
                        programs.append(behind)
                        undone = []
                self.assertEqual([book.until(many) for many in range(len(book) + 1)], programs)
                self.assertEqual(book.program(), programs[-1])
            again = Book(START).tried(book.log())
            self.assertEqual((again, again.program()), (book, book.program()))
        self.assertEqual(refused, {NoPlace, BadStatement, Full})


def drawn_deed(rng, program):
    places = all_places(program)
    place = rng.choice(places + [(rng.randint(0, 2), (rng.randint(0, 9),))])
    statement = rng.choice([QUIET, ("new", "y"), ("mark", "x", 2), ("loop", []), ("either", [[], [QUIET]]), ("loop", [QUIET] * 3), ("new", "q"), None])
    return rng.choice([("put", place, statement), ("put", place, statement), ("behind", place, rng.randint(0, 2), statement), ("take", place),
                       ("change", place, statement)])


def led(program, deed):
    """The program to which a deed leads by the functions of places, or the class of the error."""
    try:
        if deed[0] == "put":
            return put_in(program, *deed[1:])
        if deed[0] == "behind":
            return put_behind(program, *deed[1:])
        if deed[0] == "take":
            return left_out(program, deed[1])
        if deed[1] not in all_places(program) or statement_at(program, deed[1]) is None:
            return NoPlace
        # The other one is put in first: a body that has become empty has no place any more.
        bigger = put_in(program, *deed[1:])
        return left_out(bigger, (deed[1][0], deed[1][1][:-1] + (deed[1][1][-1] + 1,)))
    except (NoPlace, BadStatement) as error:
        return error.__class__
