"""Notation: statements, programs and runs as texts, which are read as the same again."""
from askless.errors import BadStatement, NoText, Wrong
from askless.programs import Program
from askless.statements import bodies, is_statement
from askless.steps import is_step

NO_TARGET = "-"
AHEAD = "  "
MOST_BLANKS = 200
MOST_DIGITS = 40
HEADS = ("cells", "roots", "fields")


def show_words(parts):
    """The line of some names, targets and numbers."""
    return " ".join([NO_TARGET if part == "" else str(part) for part in parts])


def with_feeds(lines):
    """The text of some lines, each followed by a line feed."""
    return "".join([line + "\n" for line in lines])


def statement_lines(statement, ahead):
    """The list of the lines of a statement, with the same blanks ahead of all."""
    if statement[0] not in ("either", "loop"):
        return [ahead + show_words(statement)]
    lines = [ahead + statement[0]]
    for b, body in enumerate(bodies(statement)):
        if b > 0:
            lines.append(ahead + "or")
        for part in body:
            lines.extend(statement_lines(part, ahead + AHEAD))
    return lines


def show_statement(statement):
    """The text of a statement."""
    return "\n".join(statement_lines(statement, ""))


def show_program(program):
    """The text of a program."""
    names = (program.cells(), program.roots(), program.fields())
    lines = [show_words([word, *part]) for word, part in zip(HEADS, names)]
    for writer in range(len(program)):
        lines.append("writer")
        for statement in program.body(writer):
            lines.extend(statement_lines(statement, AHEAD))
    return with_feeds(lines)


def show_run(run):
    """The text of a run."""
    return with_feeds([show_words(step) for step in run])


def show_address(address):
    """The text of an address."""
    return ".".join([str(part) for part in address])


def read_number(word):
    """The number that some digits tell, without zeros ahead, or None."""
    if not 1 <= len(word) <= MOST_DIGITS or not all([letter in "0123456789" for letter in word]):
        return None
    return int(word) if word[0] != "0" or len(word) == 1 else None


def read_address(text):
    """The address that a text tells, or None."""
    parts = [read_number(word) for word in text.split(".")]
    return None if None in parts or len(parts) & 1 == 0 else tuple(parts)


def read_part(word):
    """What a word of a line tells: a target, a number, or a name, if it is one."""
    number = read_number(word)
    if number is None:
        return "" if word == NO_TARGET else word
    return number


def read_words(line):
    """The tuple of what the words of a line tell."""
    return tuple([read_part(word) for word in line.split(" ")])


def lines_of(text):
    """The list of the tuples (blanks, rest) of the lines of a text: how many blanks stand ahead of the rest."""
    found = []
    for line in text.split("\n"):
        rest = line.lstrip(" ")
        found.append((len(line) - len(rest), rest))
    # What is nested deeper is no text, so that reading never goes deeper either.
    if max([blanks for blanks, rest in found]) > MOST_BLANKS:
        raise NoText()
    return found


def read_body(lines, at, blanks):
    """The list of what stands from a line on with so many blanks ahead, and the index of the line behind it."""
    body = []
    while at < len(lines) and lines[at][0] == blanks:
        statement, at = read_lines(lines, at)
        body.append(statement)
    return (body, at)


def read_lines(lines, at):
    """The statement that begins with a line, if it is one, and the index of the line behind it."""
    blanks, word = lines[at]
    if word not in ("either", "loop"):
        return (read_words(word), at + 1)
    body, at = read_body(lines, at + 1, blanks + len(AHEAD))
    if word == "loop":
        return ((word, body), at)
    inner = [body]
    while at < len(lines) and lines[at] == (blanks, "or"):
        body, at = read_body(lines, at + 1, blanks + len(AHEAD))
        inner.append(body)
    return ((word, inner), at)


def read_statement(text):
    """The statement that a text tells."""
    if not isinstance(text, str):
        raise NoText()
    statement = read_lines(lines_of(text), 0)[0]
    # What is told with other signs than it is shown with is no text.
    if not is_statement(statement) or show_statement(statement) != text:
        raise NoText()
    return statement


def read_program(text):
    """The program that a text tells."""
    if not isinstance(text, str):
        raise NoText()
    lines = lines_of(text)
    heads = [rest.split(" ") for blanks, rest in lines[:len(HEADS)]]
    if [head[0] for head in heads] != list(HEADS):
        raise NoText()
    writers = []
    at = len(heads)
    while at < len(lines) and lines[at] == (0, "writer"):
        body, at = read_body(lines, at + 1, len(AHEAD))
        writers.append(body)
    try:
        program = Program(heads[0][1:], heads[1][1:], writers, fields=heads[2][1:])
    except (Wrong, BadStatement):
        raise NoText() from None
    if show_program(program) != text:
        raise NoText()
    return program


def read_run(text):
    """The run that a text tells, a list."""
    if not isinstance(text, str):
        raise NoText()
    run = [read_words(line) for line in text.split("\n")[:-1]]
    if not all([is_step(step) for step in run]) or show_run(run) != text:
        raise NoText()
    return run
