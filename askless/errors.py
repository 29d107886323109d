"""The errors: each keeps the arguments of its constructor as fields."""


class AskError(ValueError):
    """What every other error is a subclass of."""


class Wrong(AskError):
    """An argument is not as described: place is its place in the signature."""

    def __init__(self, place):
        self.place = place


class BadStatement(AskError):
    """What stands at an address of a writer is no statement of the program."""

    def __init__(self, writer, address):
        self.writer = writer
        self.address = address


class NoWriter(AskError):
    """The program has no writer of this number."""

    def __init__(self, writer):
        self.writer = writer


class NoPlace(AskError):
    """There is no such place."""

    def __init__(self, place):
        self.place = place


class TooMany(AskError):
    """There is more than the limit allows."""

    def __init__(self, limit):
        self.limit = limit


class NoStep(AskError):
    """This is no step that can be done now."""

    def __init__(self):
        pass


class Fault(AskError):
    """The statement of a writer is a fault, for a name in it."""

    def __init__(self, writer, address, name):
        self.writer = writer
        self.address = address
        self.name = name


class Freed(AskError):
    """A cell would be freed while a walker holds it."""

    def __init__(self, cell):
        self.cell = cell


class Gone(AskError):
    """A walker would read what is gone."""

    def __init__(self, walker):
        self.walker = walker


class Nothing(AskError):
    """There is nothing to take back or to do again."""

    def __init__(self):
        pass


class NoWalker(AskError):
    """There is no such walker."""

    def __init__(self, walker):
        self.walker = walker


class Broken(AskError):
    """The item at an index cannot be done or is wrong."""

    def __init__(self, at):
        self.at = at


class BadTarget(AskError):
    """What stands at a place is no target."""

    def __init__(self, place):
        self.place = place


class Unknown(AskError):
    """A name is that of no cell."""

    def __init__(self, name):
        self.name = name


class NotBare(AskError):
    """A script has a quiet where it must have none."""

    def __init__(self, at):
        self.at = at


class Hopeless(AskError):
    """No quiet can take away the harm at an index."""

    def __init__(self, at):
        self.at = at


class NotRight(AskError):
    """The program is wrong."""

    def __init__(self):
        pass


class NoChain(AskError):
    """The program has not both the root and the field."""

    def __init__(self, root, field):
        self.root = root
        self.field = field


class Unlike(AskError):
    """Two graphs differ in their fields or roots."""

    def __init__(self):
        pass


class NotPlain(AskError):
    """One of two graphs is not plain."""

    def __init__(self, which):
        self.which = which


class NoRead(AskError):
    """By the item at an index a walk is no entry."""

    def __init__(self, at):
        self.at = at


class NoSwitch(AskError):
    """A place is no switch."""

    def __init__(self, place):
        self.place = place


class TooFew(AskError):
    """There are fewer names than are needed."""

    def __init__(self, many):
        self.many = many


class NoDeed(AskError):
    """This is no deed."""

    def __init__(self):
        pass


class Full(AskError):
    """Nothing more can be taken in."""

    def __init__(self, limit):
        self.limit = limit


class NoEntry(AskError):
    """A log has no such entry."""

    def __init__(self, many):
        self.many = many


class NoText(AskError):
    """This is no text of the notation."""

    def __init__(self):
        pass


class NoCommand(AskError):
    """This is no command."""

    def __init__(self):
        pass
