"""Promises: what each log of a program is to keep to."""
from askless.errors import Wrong
from askless.grounds import Ground
from askless.hunts import least_shown
from askless.kinds import is_list, is_number
from askless.reads import has_read_form
from askless.sights import heads

MANY_STATES = 100


def is_promise_row(thing):
    """Whether a value is a tuple (state, pattern, next) of a promise."""
    if not isinstance(thing, tuple) or len(thing) != 3 or not is_number(MANY_STATES, thing[0]):
        return False
    return has_read_form(thing[1], True) and (thing[2] is None or is_number(MANY_STATES, thing[2]))


def is_like(pattern, read):
    """Whether a pattern fits a read."""
    return all([wish is None or wish == part for wish, part in zip(pattern, read)])


class Promise:
    """A promise about logs: rows of a state, a pattern and the next state, or None where it is broken."""

    def __init__(self, rows):
        if not is_list(rows) or not all([is_promise_row(row) for row in rows]):
            raise Wrong(0)
        self.clauses = list(rows)

    def __eq__(self, other):
        return isinstance(other, Promise) and self.clauses == other.clauses

    def rows(self):
        """The list of the rows."""
        return list(self.clauses)

    def state_after(self, log):
        """The state behind a log, or None if the promise is broken."""
        state = 0
        for read in log:
            state = self.state_behind(state, read)
            if state is None:
                return None
        return state

    def broken_at(self, log):
        """The index of the read of a log that breaks the promise, or None."""
        state = 0
        for at, read in enumerate(log):
            state = self.state_behind(state, read)
            if state is None:
                return at
        return None

    def state_behind(self, state, read):
        """The state behind a state and a read, or None if the promise is broken."""
        for present, pattern, onward in self.clauses:
            if present == state and is_like(pattern, read):
                return onward
        return state


def broken(program, promise, *, most=1000):
    """The least log of a walker that breaks a promise, or None."""
    ground = Ground(program, most)

    def options(names, state):
        """All that a walker can read to whom these cells have come."""
        return heads(program, names)

    def result(names, state, read, worth):
        """Whether the read breaks the promise, and the state behind it."""
        then = promise.state_behind(state, read)
        return ("broken" if then is None else "", then)
    found = least_shown(ground, ground.everywhere(), 0, options, result)
    return None if found is None else found[0]


def never(patterns):
    """The promise that is broken by each read that one of some patterns fits."""
    return Promise([(0, pattern, None) for pattern in patterns])
