"""Machines: runs that are done step by step, with walkers."""
from askless.errors import Fault, Freed, Gone, NoStep, NoWalker, Nothing, Wrong
from askless.kinds import is_number
from askless.programs import Program
from askless.rows import ASKS, GONE, LATERS, LOCKS, PLACES, RANKS, ROOTS, THINGS, replaced, thing_of
from askless.steps import FREE, all_steps, asked_by, asks_behind, begin_row, deed_of, done, ended_by
from askless.steps import fault_of, freed_by, house_steps, is_step, writer_steps
from askless.walkers import Guest, Walker

READS = ("root", "field", "mark")


class Machine:
    """A run of a program, done step by step.

    It keeps a row without ranks, and beside the quiets that are asked, for each asking, how many
    walkers had entered ahead of it, and how many of these are in.
    """

    def __init__(self, program):
        if not isinstance(program, Program):
            raise Wrong(0)
        self.source = program
        self.now = replaced(begin_row(program), RANKS, ())
        self.waits = ()
        self.guests = []
        self.crowd = 0
        self.holders = {cell: 0 for cell in program.cells()}
        self.past = []
        self.befores = []

    def __eq__(self, other):
        return isinstance(other, Machine) and self.source == other.source and self.past == other.past

    def __len__(self):
        return len(self.past)

    def step(self, thing):
        """Do a step; a read returns what it tells."""
        if not is_step(thing):
            raise NoStep()
        before = (self.now, self.waits, self.come_by(thing))
        worth = None
        if thing[0] in READS:
            worth = self.read(thing)
        elif thing[0] == "enter":
            self.guests.append(Guest())
            self.crowd += 1
        elif thing[0] == "leave":
            self.let_out(thing[1])
        else:
            self.move(thing)
        self.past.append(thing)
        self.befores.append(before)
        return worth

    def back(self):
        """Take the last step back and return it."""
        if len(self.past) == 0:
            raise Nothing()
        thing = self.past.pop()
        self.now, self.waits, come = self.befores.pop()
        if thing[0] in READS:
            self.unread(thing[1], come)
        elif thing[0] == "enter":
            guest = self.guests.pop()
            guest.present = False
            self.crowd -= 1
        elif thing[0] == "leave":
            self.set_present(thing[1], True)
        return thing

    def enter(self):
        """Let a walker enter, and return it."""
        self.step(("enter",))
        return Walker(self, len(self.guests) - 1, self.guests[-1])

    def places(self):
        """The list of the addresses of the writers."""
        return list(self.now[PLACES])

    def asks(self):
        """The list of the names of the quiets that are asked, in the order of their askings."""
        return list(self.now[ASKS])

    def laters(self):
        """The ascending list of the cells that are under way and not begun."""
        return list(self.now[LATERS])

    def things(self):
        """The dict from all cells, ascending, to None or a tuple of the mark and the dict of targets."""
        return {cell: self.told_thing(cell) for cell in self.source.cells()}

    def roots(self):
        """The dict from all roots, ascending, to their targets."""
        return dict(zip(self.source.roots(), self.now[ROOTS]))

    def locks(self):
        """The dict from all locks, ascending, to the numbers of writers, or None."""
        holders = [None if holder == FREE else holder for holder in self.now[LOCKS]]
        return dict(zip(self.source.locks(), holders))

    def inside(self):
        """The ascending list of the walkers that are in."""
        return [number for number, guest in enumerate(self.guests) if guest.present]

    def held(self, walker):
        """The list of the names of the cells that have come to a walker."""
        return list(self.guest_of(walker).found)

    def log(self, walker):
        """The list of the reads of a walker."""
        return list(self.guest_of(walker).told)

    def reads(self, walker):
        """The ascending list of the reads that a walker who is in can do, wrong ones too."""
        guest = self.guest_of(walker)
        if not guest.present:
            raise NoWalker(walker)
        numbers = list(range(len(guest.found)))
        fields = [("field", walker, k, field) for k in numbers for field in self.source.fields()]
        marks = [("mark", walker, k) for k in numbers]
        return fields + marks + [("root", walker, root) for root in self.source.roots()]

    def steps(self):
        """The ascending list of the steps of writers and of the house that can be done, wrong ones too."""
        return [step for step in all_steps(self.source, self.now) if not self.is_waiting(step)]

    def run(self):
        """The list of the steps that were done."""
        return list(self.past)

    def copied(self):
        """A machine that stands there, too, and goes on by itself."""
        machine = Machine(self.source)
        for thing in list(self.past):
            machine.step(thing)
        return machine

    def seen(self):
        """The tuple (places, things, roots) of what stands now."""
        return (self.now[PLACES], self.now[THINGS], self.now[ROOTS])

    def told_thing(self, cell):
        """What is told of a cell: None, or the tuple of its mark and the dict of its targets."""
        thing = thing_of(self.source, self.now, cell)
        if thing == ():
            return None
        return (thing[0], dict(zip(self.source.fields(), thing[1])))

    def guest_of(self, walker):
        """What is kept of the walker with a number, which may be any value."""
        if not is_number(len(self.guests), walker):
            raise NoWalker(walker)
        return self.guests[walker]

    def guest_inside(self, walker):
        """What is kept of a walker that does a step."""
        if walker >= len(self.guests) or not self.guests[walker].present:
            raise NoStep()
        return self.guests[walker]

    def come_by(self, thing):
        """How many cells have come to the walker who reads, by which a read can be taken back."""
        if thing[0] not in READS or thing[1] >= len(self.guests):
            return 0
        return len(self.guests[thing[1]].found)

    def set_present(self, walker, present):
        """Note that a walker left, or is in again."""
        guest = self.guests[walker]
        guest.present = present
        change = 1 if present else -1
        self.crowd += change
        for cell in guest.found:
            self.holders[cell] += change

    def let_out(self, walker):
        """Let a walker leave: those askings that it was ahead of wait for one less."""
        self.guest_inside(walker)
        self.set_present(walker, False)
        self.waits = tuple([(entered, many - 1 if walker < entered else many) for entered, many in self.waits])

    def read(self, thing):
        """Do a read and return what it tells."""
        guest = self.guest_inside(thing[1])
        if thing[0] == "mark":
            mark = self.thing_held(guest, thing[2])[0]
            guest.told.append(("mark", thing[2], mark))
            return mark
        target = self.target_read(guest, thing)
        if target == GONE:
            raise Gone(thing[1])
        number = self.number_of(guest, target)
        guest.told.append((thing[0], *thing[2:], number))
        return number

    def unread(self, walker, come):
        """Take the last read of a walker back, to whom so many cells had come ahead of it."""
        guest = self.guests[walker]
        guest.told.pop()
        if len(guest.found) > come:
            self.holders[guest.found.pop()] -= 1

    def thing_held(self, guest, k):
        """The thing that is told of the cell with the number k of a walker."""
        if k >= len(guest.found):
            raise NoStep()
        return thing_of(self.source, self.now, guest.found[k])

    def target_read(self, guest, thing):
        """The target at the root or the field that is read."""
        numbers = self.source.root_at if thing[0] == "root" else self.source.field_at
        if thing[-1] not in numbers:
            raise NoStep()
        targets = self.now[ROOTS] if thing[0] == "root" else self.thing_held(guest, thing[2])[1]
        return targets[numbers[thing[-1]]]

    def number_of(self, guest, target):
        """The number of a cell that is told to a walker, or -1 for none."""
        if target == "":
            return -1
        if target not in guest.found:
            guest.found.append(target)
            self.holders[target] += 1
        return guest.found.index(target)

    def is_waiting(self, step):
        """Whether a step has to wait until a walker has left."""
        name = ended_by(deed_of(self.source, self.now, step))
        asks = self.now[ASKS]
        return name in asks and self.waits[asks.index(name)][1] > 0

    def can_move(self, step):
        """Whether a step of a writer or of the house can be done now."""
        if step[0] != "writer":
            steps = house_steps(self.now)
        elif step[1] < len(self.source):
            steps = writer_steps(self.source, self.now, step[1])
        else:
            steps = []
        return step in steps and not self.is_waiting(step)

    def move(self, step):
        """Do a step of a writer or of the house."""
        if not self.can_move(step):
            raise NoStep()
        deed = deed_of(self.source, self.now, step)
        fault = fault_of(self.source, self.now, step, deed)
        if fault != "":
            raise Fault(step[1], self.now[PLACES][step[1]], fault)
        cell = freed_by(deed)
        if cell != "" and self.holders[cell] > 0:
            raise Freed(cell)
        self.waits = self.waits_behind(deed)
        asked = replaced(self.now, ASKS, asks_behind(self.now[ASKS], deed))
        self.now = done(self.source, asked, step, deed)

    def waits_behind(self, deed):
        """What is kept beside the quiets that are asked, behind a deed."""
        waits = self.waits
        asked = asked_by(deed)
        changed = asked if asked != "" else ended_by(deed)
        if changed in self.now[ASKS]:
            at = self.now[ASKS].index(changed)
            waits = waits[:at] + waits[at + 1:]
        return waits + ((len(self.guests), self.crowd),) if asked != "" else waits
