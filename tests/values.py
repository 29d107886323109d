"""Values of all kinds, for what accepts any value."""


class Odd:
    """An object of a class of the caller's own."""


def nested(depth, inner=(), kind=list):
    """A value nested so deep."""
    thing = inner
    for level in range(depth - 1):
        thing = kind([thing])
    return thing


def odd_values():
    """Values that are no name, number, statement, place, step, run, row or program."""
    return [
        None, True, False, "", "A", "x y", "abcdefghi", "x" * 1000000, b"x", 10 ** 39, -(10 ** 39), -1,
        [], [None], ["x", 0], (), (None,), (True,), (False,), ((),), ([],), {}, {"x": 1}, {1, 2}, set(), Odd(), Odd, len,
        nested(60), nested(60, (), lambda parts: tuple(parts)), [0] * 1000000, (0,) * 1000000, [[]] * 300000,
        ("quiet", "q"), ["quiet"], ("new", True), ("new", ["x"]), ("new", "x", "x"), ("?",), ("", 0), (0, 0),
    ]
