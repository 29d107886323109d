"""Desks: books that are led by lines of text."""
from askless.along import wrong_run
from askless.book import Book
from askless.errors import NoCommand, NoText
from askless.logs import Logs
from askless.notation import read_address, read_number, read_statement, show_address, show_program, show_run
from askless.notation import show_statement, with_feeds
from askless.tables import Table

MOST_READS = 20


def show_deed(deed):
    """The line of a deed."""
    writer, address = deed[1]
    words = [deed[0], f"{writer}@{show_address(address)}", *[str(b) for b in deed[2:-1]]]
    if deed[0] != "take":
        words.append(show_statement(deed[-1]))
    return " ".join(words)


def read_place(text):
    """The place that a text tells."""
    writer, sign, address = text.partition("@")
    place = (read_number(writer), read_address(address))
    if None in place:
        raise NoCommand()
    return place


def read_inner(text):
    """The statement that a part of a line tells."""
    try:
        return read_statement(text)
    except NoText:
        raise NoCommand() from None


def read_deed(line):
    """The deed that a line tells."""
    word, blank, rest = line.partition(" ")
    place, blank, rest = rest.partition(" ")
    if word == "take" and blank == "":
        return (word, read_place(place))
    if word in ("put", "change"):
        return (word, read_place(place), read_inner(rest))
    if word != "behind":
        raise NoCommand()
    b, blank, rest = rest.partition(" ")
    if read_number(b) is None:
        raise NoCommand()
    return (word, read_place(place), read_number(b), read_inner(rest))


def tell_right(program):
    """Whether a program is right, with the number of the rows, or of the fewest steps to what is wrong."""
    table = Table(program)
    return f"right {len(table)}" if table.is_safe else f"wrong {table.fewest}"


def tell_run(program):
    """The text of a wrong run, without its last line feed, or that there is none."""
    run = wrong_run(program)
    return "none" if run is None else show_run(run)[:-1]


class Desk:
    """A book that is led by lines of text, each of which has an answer."""

    def __init__(self, program):
        self.book = Book(program)

    def execute(self, line):
        """Do what a line says, and return the answer."""
        if not isinstance(line, str):
            raise NoCommand()
        if line == "back":
            return show_deed(self.book.back())
        if line == "again":
            return show_deed(self.book.again())
        if line == "show":
            return show_program(self.book.program())
        if line == "log":
            return with_feeds([show_deed(deed) for deed in self.book.log()])
        if line == "right":
            return tell_right(self.book.program())
        if line == "run":
            return tell_run(self.book.program())
        word, blank, rest = line.partition(" ")
        if word == "logs":
            return self.tell_logs(read_number(rest))
        self.book.do(read_deed(line))
        return "ok"

    def tell_logs(self, many):
        """The number of the logs with so many reads."""
        if many is None or many > MOST_READS:
            raise NoCommand()
        return str(Logs(self.book.program()).count(many))
