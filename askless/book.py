"""Books: programs that are changed deed by deed."""
from askless.errors import BadStatement, Broken, Full, NoDeed, NoEntry, NoPlace, Nothing, Wrong
from askless.kinds import is_integer, is_number
from askless.places import is_place, left_out, put_behind, put_in, put_instead, statement_at
from askless.programs import Program
from askless.statements import as_lists, as_tuples

DEEDS = {"put": 3, "behind": 4, "take": 2, "change": 3}
MOST_DEEDS = 60
MOST_STATEMENTS = 12


def is_spot(thing):
    """Whether a value is a tuple of an integer and a tuple of integers."""
    if not isinstance(thing, tuple) or len(thing) != 2 or not isinstance(thing[1], tuple):
        return False
    return is_integer(thing[0]) and all([is_integer(part) for part in thing[1]])


def is_deed(thing):
    """Whether a value is a deed, with any statement."""
    if not isinstance(thing, tuple) or len(thing) == 0 or not isinstance(thing[0], str):
        return False
    if DEEDS.get(thing[0]) != len(thing) or not is_spot(thing[1]):
        return False
    return thing[0] != "behind" or is_integer(thing[2])


def led_by(program, deed):
    """The program to which a deed leads."""
    if deed[0] == "put":
        return put_in(program, deed[1], deed[2])
    if deed[0] == "behind":
        return put_behind(program, deed[1], deed[2], deed[3])
    if deed[0] == "take":
        return left_out(program, deed[1])
    return put_instead(program, deed[1], deed[2])


def is_full(program):
    """Whether a writer has more statements than a book takes in, inner ones counted."""
    # Beside its statements, a writer has a place at its end.
    return any([len(spots) - 1 > MOST_STATEMENTS for spots in program.spots])


def kept(deed):
    """A deed that was done, so that nothing can change it."""
    return deed if deed[0] == "take" else deed[:-1] + (as_tuples(deed[-1]),)


def told(deed):
    """A deed that is kept, with new lists for bodies."""
    return deed if deed[0] == "take" else deed[:-1] + (as_lists(deed[-1]),)


class Book:
    """A program that is changed deed by deed: the programs from the begin on, and the deeds between them."""

    def __init__(self, program):
        if not isinstance(program, Program):
            raise Wrong(0)
        self.programs = (program,)
        self.deeds = ()
        self.undone = ()

    def __eq__(self, other):
        return isinstance(other, Book) and self.programs[0] == other.programs[0] and self.deeds == other.deeds

    def __len__(self):
        return len(self.deeds)

    def __iter__(self):
        raise TypeError("a book is not iterated over")

    def __getitem__(self, place):
        program = self.programs[-1]
        found = statement_at(program, place) if is_place(program, place) else None
        if found is None:
            raise NoPlace(place)
        return found

    def __setitem__(self, place, statement):
        self.do(("change", place, statement))

    def do(self, deed):
        """Do a deed."""
        if not is_deed(deed):
            raise NoDeed()
        if len(self.deeds) == MOST_DEEDS:
            raise Full(MOST_DEEDS)
        program = led_by(self.programs[-1], deed)
        if is_full(program):
            raise Full(MOST_STATEMENTS)
        self.programs = self.programs + (program,)
        self.deeds = self.deeds + (kept(deed),)
        self.undone = ()

    def back(self):
        """Take the last deed back and return it."""
        if len(self.deeds) == 0:
            raise Nothing()
        deed = self.deeds[-1]
        self.undone = self.undone + ((deed, self.programs[-1]),)
        self.deeds = self.deeds[:-1]
        self.programs = self.programs[:-1]
        return told(deed)

    def again(self):
        """Do the deed again that was taken back last, and return it."""
        if len(self.undone) == 0:
            raise Nothing()
        deed, program = self.undone[-1]
        self.undone = self.undone[:-1]
        self.deeds = self.deeds + (deed,)
        self.programs = self.programs + (program,)
        return told(deed)

    def program(self):
        """The program."""
        return self.programs[-1]

    def log(self):
        """The list of the deeds."""
        return [told(deed) for deed in self.deeds]

    def until(self, many):
        """The program behind the first deeds, so many of them."""
        if not is_number(len(self.programs), many):
            raise NoEntry(many)
        return self.programs[many]

    def copied(self):
        """A book with the same begin, log and deeds to do again, that goes on by itself."""
        book = Book(self.programs[0])
        book.programs = self.programs
        book.deeds = self.deeds
        book.undone = self.undone
        return book

    def tried(self, deeds):
        """A copy behind further deeds."""
        if not isinstance(deeds, list):
            raise Wrong(0)
        book = self.copied()
        for at, deed in enumerate(deeds):
            try:
                book.do(deed)
            except (NoDeed, Full, NoPlace, BadStatement) as error:
                raise Broken(at) from error
        return book

    def block(self, act):
        """Call act with the book and return what it returns; if it raises an error, all is as it was ahead."""
        programs, deeds, undone = self.programs, self.deeds, self.undone
        failed = True
        try:
            worth = act(self)
            failed = None
        finally:
            if failed is not None:
                self.programs, self.deeds, self.undone = programs, deeds, undone
        return worth
