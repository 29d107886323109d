"""[60] reads."""
import itertools
import unittest

from askless.reads import come, is_less, is_log, is_read
from tests.values import nested, odd_values

BIG = 10 ** 39
READS = [("root", "r", 0), ("root", "abcdefgh", -1), ("root", "r", BIG), ("field", 0, "f", -1), ("field", BIG, "f", 7), ("mark", 0, 0),
         ("mark", BIG, 3)]
OTHERS = [("root", "r", -2), ("root", "r", True), ("root", "r", False), ("root", "r", "x"), ("root", "R", 0), ("root", "", 0), ("root", 0, 0),
          ("root", "r"), ("root", "r", 0, 0), ["root", "r", 0], ("field", -1, "f", 0), ("field", True, "f", 0), ("field", 0, "F", 0),
          ("field", 0, "f", -2), ("field", 0, "f", False), ("field", 0, "f"), ("field", "x", "f", 0), ("field", 0, 0, 0), ("mark", 0, 4),
          ("mark", 0, -1), ("mark", 0, True), ("mark", False, 0), ("mark", -1, 0), ("mark", 0), ("mark", 0, 0, 0), ("marks", 0, 0),
          ("mark", 0, None), (None, 0, 0), (True, 0, 0), (["mark"], 0, 0), ("root", None, 0), ("root", "r", None), ("root", "abcdefghi", 0),
          ("root", "r", (0,)), ("field", 0, ["f"], 0), ("enter",), ("root", 0, "r"), ("root", "r", -BIG), ("mark", 0, nested(58))]


class ReadTest(unittest.TestCase):
    def test_reads(self):
        for read in READS:
            self.assertIs(is_read(read), True)
        for thing in OTHERS + odd_values():
            self.assertIs(is_read(thing), False, thing)

    def test_logs(self):
        logs = [[], [("root", "r", -1)], [("root", "r", 0), ("mark", 0, 3), ("field", 0, "f", 0), ("field", 0, "f", 1), ("field", 1, "g", -1),
                                          ("root", "s", 2), ("mark", 2, 0)], [("root", "r", -1)] * 300000]
        for log in logs:
            self.assertIs(is_log(log), True)
        others = [[("root", "r", 1)], [("mark", 0, 0)], [("field", 0, "f", -1)], [("root", "r", 0), ("root", "r", 2)],
                  [("root", "r", 0), ("mark", 1, 0)], [("root", "r", 0), ("field", 1, "f", 1)], [("root", "r", 0), ("field", 0, "f", 2)],
                  [("root", "r", -1), ("mark", 0, 0)], [("root", "r", 0), ("mark", 0, 1), ("root", "r", 2)],
                  [("root", "r", 0), ("mark", 0, 1), ("mark", 1, 0)], (("root", "r", 0),), ("root", "r", 0), [["root", "r", 0]], [("root", "r", False)],
                  [("root", "r", 0), ("mark", False, 0)], [("root", "r", 0), ("root", "r", True)], [("root", "r", BIG)],
                  [("root", "r", -1)] * 300000 + [("root", "r", 1)]]
        for thing in others:
            self.assertIs(is_log(thing), False)
        for thing in odd_values():
            self.assertIs(is_log(thing), isinstance(thing, list) and len(thing) == 0)
            self.assertIs(is_log([("root", "r", 0), thing]), False)
        for read in OTHERS:
            self.assertIs(is_log([read]), False)

    def test_come(self):
        for many, log in [(0, []), (0, [("root", "r", -1)]), (1, [("root", "r", 0), ("mark", 0, 3)]), (1, [("root", "r", 0), ("root", "s", 0)]),
                          (3, [("root", "r", 0), ("field", 0, "f", 1), ("field", 1, "f", 2), ("field", 2, "f", 0), ("root", "r", -1)])]:
            self.assertEqual(come(log), many)

    def test_is_less(self):
        line = [[], [("field", 0, "f", -1)], [("mark", 0, 3)], [("root", "r", -1)], [("root", "r", 0)], [("root", "s", -1)],
                [("root", "r", -1), ("root", "r", -1)], [("root", "r", 0), ("field", 0, "f", 0)], [("root", "r", 0), ("field", 0, "f", 1)],
                [("root", "r", 0), ("mark", 0, 0)], [("root", "r", 0), ("root", "r", 0)], [("root", "r", -1)] * 3]
        for (at, one), (to, other) in itertools.product(enumerate(line), repeat=2):
            self.assertIs(is_less(one, other), at < to)
