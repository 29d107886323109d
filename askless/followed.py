"""Followed: for walkers who read some of the roots and fields alone, whether a program is right."""
from askless.along import wrong_run_by
from askless.runs import is_wrong_run
from askless.tables import Table, is_closed


def parts_of(names):
    """The ascending list of the tuples of different ones of some ascending names."""
    found = [()]
    for name in names:
        found = found + [part + (name,) for part in found]
    return sorted(found)


def choices(program):
    """Tell all choices of roots and fields, ascending."""
    for roots in parts_of(program.roots()):
        for fields in parts_of(program.fields()):
            yield (roots, fields)


def is_at_most(one, other):
    """Whether a choice has no root and no field that another one has not."""
    return all([root in other[0] for root in one[0]]) and all([field in other[1] for field in one[1]])


def size(choice):
    """How many roots and fields a choice has."""
    return len(choice[0]) + len(choice[1])


def table_for(program, choice, most):
    """The table of a program for walkers who read a choice alone."""
    return Table(program.narrowed(*choice), most=most)


def rows_for(program, choice, *, most=1000):
    """The ascending list of the rows of a program for walkers who read a choice alone."""
    return table_for(program, choice, most).rows()


def is_right_for(program, choice, *, most=1000):
    """Whether no run is wrong with walkers who read a choice alone."""
    return table_for(program, choice, most).is_safe


def choice_bar(program, choice, *, most=1000):
    """A wrong run with the fewest steps whose walkers read a choice alone, or None."""
    return wrong_run_by(program.narrowed(*choice), table_for(program, choice, most))


def looked_at_for(program, most):
    """The lists of the tuples (choice, table) of the greatest choices, and of all that the program is not right for."""
    goods = []
    bads = []
    # What is right for some walkers is right for those who read less.
    for choice in sorted(list(choices(program)), key=size, reverse=True):
        if not any([is_at_most(choice, good) for good, table in goods]):
            found = table_for(program, choice, most)
            if found.is_safe:
                goods.append((choice, found))
            else:
                bads.append((choice, found))
    return (goods, bads)


def greatest_choices(program, *, most=1000):
    """The ascending list of the greatest choices for which the program is right."""
    return sorted([choice for choice, table in looked_at_for(program, most)[0]])


def is_least(choice, bads):
    """Whether none of some choices, of which it is one, is less than it."""
    return not any([is_at_most(bad, choice) and bad != choice for bad in bads])


def choices_paper(program, *, most=1000):
    """What shows for which choices the program is right: closed lists of rows, and wrong runs."""
    goods, bads = looked_at_for(program, most)
    wrong = [choice for choice, table in bads]
    told = [(choice, table.rows()) for choice, table in goods]
    least = [(choice, table) for choice, table in bads if is_least(choice, wrong)]
    runs = [(choice, wrong_run_by(program.narrowed(*choice), table)) for choice, table in least]
    return (sorted(told), sorted(runs))


def is_choice(program, thing):
    """Whether a value is a choice of roots and fields of a program."""
    if not isinstance(thing, tuple) or len(thing) != 2:
        return False
    return are_some(program.roots(), thing[0]) and are_some(program.fields(), thing[1])


def are_some(names, thing):
    """Whether a value is an ascending tuple of different ones of some names."""
    if not isinstance(thing, tuple) or not all([part in names for part in thing]):
        return False
    return list(thing) == sorted(set(thing))


def are_chosen(program, thing):
    """Whether a value is a list of tuples of a choice and any other value."""
    if not isinstance(thing, list) or not all([isinstance(part, tuple) and len(part) == 2 for part in thing]):
        return False
    return all([is_choice(program, part[0]) for part in thing])


def reads_alone(choice, run):
    """Whether walkers read nothing but a choice, beside marks, in a list or a tuple of steps."""
    roots = [step[2] for step in run if step[0] == "root"]
    fields = [step[3] for step in run if step[0] == "field"]
    return all([root in choice[0] for root in roots]) and all([field in choice[1] for field in fields])


def is_wrong_for(program, choice, thing):
    """Whether a value is a wrong run whose walkers read a choice alone."""
    return is_wrong_run(program, thing) and reads_alone(choice, thing)


def is_choices_paper(program, goods, bads):
    """Whether two values show for each choice whether the program is right for it."""
    if not are_chosen(program, goods) or not are_chosen(program, bads):
        return False
    if not all([is_closed(program.narrowed(*choice), rows) for choice, rows in goods]):
        return False
    if not all([is_wrong_for(program, choice, run) for choice, run in bads]):
        return False
    return all([is_shown_for(choice, goods, bads) for choice in list(choices(program))])


def is_shown_for(choice, goods, bads):
    """Whether a choice is at most one of goods, or one of bads is at most it."""
    right = any([is_at_most(choice, good) for good, rows in goods])
    return right or any([is_at_most(bad, choice) for bad, run in bads])
