"""The examples of the document, word for word, as far as they speak of what is here."""
import doctest
import unittest

EXAMPLES = '''
>>> from askless.logs import Logs
>>> from askless.programs import Program
>>> from askless.promises import broken, never
>>> swap = Program(["x", "y"], ["r"], [[("new", "x"), ("mark", "x", 1), ("root", "r", "x"), ("new", "y"), ("mark", "y", 2), ("root", "r", "y"), ("quiet",), ("free", "x")]])
>>> logs = Logs(swap)
>>> [logs.count(1), logs.count(2), logs.coming([("root", "r", 0)])]
[2, 6, [('mark', 0, 1), ('mark', 0, 2), ('root', 'r', 0), ('root', 'r', 1)]]
>>> early = Program(["x"], ["r"], [[("new", "x"), ("root", "r", "x"), ("mark", "x", 1)]])
>>> [broken(early, never([("mark", None, 0)])), broken(swap, never([("mark", None, 0)]))]
[[('root', 'r', 0), ('mark', 0, 0)], None]

>>> from askless.chains import missed, stranger, twice
>>> from askless.moments import never_stood
>>> from askless.programs import Program
>>> turn = Program(["x", "y"], ["a", "b"], [[("new", "x"), ("new", "y"), ("root", "a", "x"), ("root", "a", ""), ("root", "b", "y")]])
>>> never_stood(turn)
[('root', 'a', 0), ('root', 'b', 1)]
>>> body = [("new", "x"), ("new", "y"), ("new", "z"), ("point", "y", "f", "z"), ("point", "x", "f", "y"), ("root", "r", "x")]
>>> cut = Program(["x", "y", "z"], ["r"], [body + [("point", "x", "f", "z"), ("point", "y", "f", "")]], fields=["f"])
>>> [missed(cut, ("r", "f")), stranger(cut, ("r", "f")), twice(cut, ("r", "f"))]
[([('root', 'r', 0), ('field', 0, 'f', 1), ('field', 1, 'f', -1)], 'z'), None, None]
'''


class ExamplesTest(unittest.TestCase):
    def test_examples(self):
        examples = doctest.DocTestParser().get_doctest(EXAMPLES, {}, "the document", None, 0)
        self.assertEqual(len(examples.examples), 16)
        self.assertEqual(doctest.DocTestRunner().run(examples).failed, 0)
