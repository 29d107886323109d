"""Runs: lists of steps, and what they lead to."""
from askless.errors import Broken, Fault, Freed, Gone, NoStep
from askless.kinds import is_list
from askless.machine import Machine


def wrong_by(machine, thing):
    """How a step is wrong that a machine does, as a tuple; () if it is done or cannot be done."""
    try:
        machine.step(thing)
    except NoStep:
        return ()
    except Fault as fault:
        return ("fault", fault.writer, fault.address, fault.name)
    except Freed as freed:
        return ("freed", freed.cell)
    except Gone as gone:
        return ("gone", gone.walker)
    return ()


def go(machine, thing, at):
    """Let a machine do the step with an index, or tell that the run is broken there."""
    try:
        machine.step(thing)
    except (NoStep, Fault, Freed, Gone):
        raise Broken(at) from None


def go_far(machine, run):
    """Let a machine do the steps of a run up to the first that it refuses; return how many."""
    try:
        for at, thing in enumerate(run):
            go(machine, thing, at)
    except Broken as broken:
        return broken.at
    return len(run)


def played(program, run):
    """The machine behind a run."""
    machine = Machine(program)
    for at, thing in enumerate(run):
        go(machine, thing, at)
    return machine


def is_run(program, thing):
    """Whether a value is a run of which all steps can be done and none is wrong."""
    return is_list(thing) and go_far(Machine(program), thing) == len(thing)


def is_wrong_run(program, thing):
    """Whether a value is a run of which the last step is wrong, and no other one."""
    if not is_list(thing):
        return False
    machine = Machine(program)
    at = go_far(machine, thing)
    return at == len(thing) - 1 and wrong_by(machine, thing[at]) != ()


def wrong_of(program, run):
    """How the last step of a wrong run is wrong."""
    machine = Machine(program)
    at = go_far(machine, run)
    if at != len(run) - 1:
        raise Broken(at)
    wrong = wrong_by(machine, run[at])
    if wrong == ():
        raise Broken(at)
    return wrong


def walk(program, run):
    """Tell (places, things, roots) at the begin of a run and behind each step."""
    machine = Machine(program)
    steps = list(run)
    yield machine.seen()
    for at, thing in enumerate(steps):
        go(machine, thing, at)
        yield machine.seen()
