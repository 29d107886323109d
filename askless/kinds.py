"""Kinds of values: integers, names, marks, numbers, and how any value is asked for them."""

LONGEST_NAME = 8
HIGHEST_MARK = 3


def is_integer(thing):
    """Whether a value is an integer: True and False are none."""
    return isinstance(thing, int) and not isinstance(thing, bool)


def is_name(thing):
    """Whether a value is a string of one to eight lower-case letters."""
    if not isinstance(thing, str) or not 1 <= len(thing) <= LONGEST_NAME:
        return False
    return all(["a" <= letter <= "z" for letter in thing])


def is_target(thing):
    """Whether a value is a name, or the empty string for none."""
    return isinstance(thing, str) and (thing == "" or is_name(thing))


def is_mark(thing):
    """Whether a value is an integer from 0 to 3."""
    return is_integer(thing) and 0 <= thing <= HIGHEST_MARK


def is_number(many, thing):
    """Whether a value is an integer from 0 to many - 1."""
    return is_integer(thing) and 0 <= thing < many


def is_list(thing):
    """Whether a value is a list or a tuple."""
    return isinstance(thing, (list, tuple))


def is_plain(thing, depth):
    """Whether a value is an integer, a string, or a tuple of such, nested no deeper than depth."""
    if isinstance(thing, tuple):
        return depth > 0 and all([is_plain(part, depth - 1) for part in thing])
    return is_integer(thing) or isinstance(thing, str)
