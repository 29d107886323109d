"""Walkers: what enter() returns, and what a machine keeps of each walker."""
from askless.errors import NoStep


class Guest:
    """What a machine keeps of a walker: whether it is in, the cells that came, its reads."""

    def __init__(self):
        self.present = True
        self.found = []
        self.told = []


class Walker:
    """A walker in a machine: it does its steps there."""

    def __init__(self, machine, seat, guest):
        self.machine = machine
        self.seat = seat
        self.guest = guest

    def __call__(self, root):
        return self.ask_machine(("root", self.seat, root))

    @property
    def number(self):
        """Its number in the machine that it entered."""
        return self.seat

    def follow(self, k, field):
        """Read a field of the cell with the number k."""
        return self.ask_machine(("field", self.seat, k, field))

    def look(self, k):
        """Read the mark of the cell with the number k."""
        return self.ask_machine(("mark", self.seat, k))

    def leave(self):
        """Leave."""
        return self.ask_machine(("leave", self.seat))

    def is_in(self):
        """Whether it is in."""
        return self.guest.present

    def names(self):
        """The list of the names of the cells that have come to it."""
        return list(self.guest.found)

    def ask_machine(self, step):
        """Do a step in the machine, which may have given the number anew to another walker."""
        if not self.guest.present:
            raise NoStep()
        return self.machine.step(step)
