"""The examples of the document, word for word."""
import doctest
import unittest

EXAMPLES = '''
>>> from askless.logs import Logs
>>> from askless.programs import Program
>>> from askless.promises import broken, never
>>> swap = Program(["x", "y"], ["r"], [[("new", "x"), ("mark", "x", 1), ("root", "r", "x"), ("new", "y"), ("mark", "y", 2), ("root", "r", "y"), ("quiet",), ("free", "x")]])
>>> logs = Logs(swap)
>>> [logs.count(1), logs.count(2), logs.coming([("root", "r", 0)])]
[2, 6, [('mark', 0, 1), ('mark', 0, 2), ('root', 'r', 0), ('root', 'r', 1)]]
>>> early = Program(["x"], ["r"], [[("new", "x"), ("root", "r", "x"), ("mark", "x", 1)]])
>>> [broken(early, never([("mark", None, 0)])), broken(swap, never([("mark", None, 0)]))]
[[('root', 'r', 0), ('mark', 0, 0)], None]

>>> from askless.chains import missed, stranger, twice
>>> from askless.moments import never_stood
>>> from askless.programs import Program
>>> turn = Program(["x", "y"], ["a", "b"], [[("new", "x"), ("new", "y"), ("root", "a", "x"), ("root", "a", ""), ("root", "b", "y")]])
>>> never_stood(turn)
[('root', 'a', 0), ('root', 'b', 1)]
>>> body = [("new", "x"), ("new", "y"), ("new", "z"), ("point", "y", "f", "z"), ("point", "x", "f", "y"), ("root", "r", "x")]
>>> cut = Program(["x", "y", "z"], ["r"], [body + [("point", "x", "f", "z"), ("point", "y", "f", "")]], fields=["f"])
>>> [missed(cut, ("r", "f")), stranger(cut, ("r", "f")), twice(cut, ("r", "f"))]
[([('root', 'r', 0), ('field', 0, 'f', 1), ('field', 1, 'f', -1)], 'z'), None, None]

>>> from askless.graphs import Graph
>>> from askless.plans import plan
>>> from askless.switches import copies, switches
>>> one = Graph(["to"], {"r": "x"}, {"x": (0, ("y",)), "y": (1, ("z",)), "z": (2, ("",))})
>>> other = Graph(["to"], {"r": "x"}, {"x": (0, ("y",)), "y": (3, ("",)), "z": (2, ("",))})
>>> [switches(one, other), copies(one, other, ("field", "x", "to")), copies(one, other, ("root", "r"))]
[[('root', 'r'), ('field', 'x', 'to')], ['y'], ['x', 'y']]
>>> plan(one, other, ["copy"])[1]
{'y': 'copy'}

>>> from askless.followed import greatest_choices
>>> from askless.laters import greatest_laters, later_bar
>>> from askless.programs import Program
>>> again = [("new", "x"), ("root", "r", "x"), ("root", "r", ""), ("quiet",), ("free", "x")]
>>> twice = Program(["x"], ["r"], [again + again])
>>> [greatest_laters(twice), later_bar(twice, [(0, (3,))])[0]]
[[[(0, (8,))]], 'fault']
>>> hasty = Program(["x"], ["r"], [[("new", "x"), ("root", "r", "x"), ("root", "r", ""), ("free", "x")]])
>>> greatest_choices(hasty)
[((), ())]
'''


class ExamplesTest(unittest.TestCase):
    def test_examples(self):
        examples = doctest.DocTestParser().get_doctest(EXAMPLES, {}, "the document", None, 0)
        self.assertEqual(len(examples.examples), 31)
        self.assertEqual(doctest.DocTestRunner().run(examples).failed, 0)
