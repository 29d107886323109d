"""Tables: all rows to which the steps of a program lead."""
from askless.errors import TooMany
from askless.kinds import is_plain
from askless.rows import DEPTH, PLACES, is_row
from askless.steps import begin_row, outcomes


class Table:
    """The least list of rows that has the begin row and with each row its followers."""

    def __init__(self, program, *, most=1000):
        begin = begin_row(program)
        self.costs = {begin: 0}
        self.backs = {begin: None}
        self.faulty = []
        line = [begin]
        at = 0
        while at < len(line):
            row = line[at]
            at += 1
            for step, word, name, behind in outcomes(program, row):
                if word != "":
                    self.faulty.append((row, step, word, name))
                elif behind not in self.costs:
                    self.costs[behind] = self.costs[row] + 1
                    self.backs[behind] = (step, row)
                    line.append(behind)
            if len(line) > most:
                raise TooMany(most)
        self.listed = sorted(line)
        self.faulty = sorted(self.faulty)
        self.least = min([self.costs[wrong[0]] + 1 for wrong in self.faulty], default=None)

    def __eq__(self, other):
        return isinstance(other, Table) and self.listed == other.listed

    def __len__(self):
        return len(self.listed)

    def __contains__(self, row):
        return is_plain(row, DEPTH) and row in self.costs

    @property
    def is_safe(self):
        """Whether no row has a wrong step."""
        return self.least is None

    @property
    def fewest(self):
        """The fewest steps the last of which is wrong, or None."""
        return self.least

    def rows(self):
        """The ascending list of the rows."""
        return list(self.listed)

    def rows_at(self, places):
        """The ascending list of the rows with these places."""
        return [row for row in self.listed if row[PLACES] == tuple(places)]

    def wrongs(self):
        """The ascending list of the tuples (row, step, word, name) of the wrong steps."""
        return list(self.faulty)

    def cost(self, row):
        """The fewest steps to a row of the table."""
        return self.costs[row]

    def way(self, row):
        """A list of as few steps as possible that lead to a row of the table."""
        steps = []
        back = self.backs[row]
        while back is not None:
            step, ahead = back
            steps.append(step)
            back = self.backs[ahead]
        return steps[::-1]

    def within(self, other):
        """Whether each row is one of another table."""
        return all([row in other.costs for row in self.listed])


def is_right(program, *, most=1000):
    """Whether no run of a program is wrong, whatever walkers there are."""
    return Table(program, most=most).is_safe


def is_closed(program, thing):
    """Whether a value is a list of rows that shows the program right."""
    if not isinstance(thing, list) or not all([is_row(program, row) for row in thing]):
        return False
    rows = {row: True for row in thing}
    if begin_row(program) not in rows:
        return False
    for row in list(rows):
        for step, word, name, behind in outcomes(program, row):
            if word != "" or behind not in rows:
                return False
    return True
