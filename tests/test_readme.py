"""The examples of README.md, and those of the document that speak of what is here."""
import doctest
import pathlib
import unittest

from askless.programs import Program
from askless.tables import Table, is_right


class ExamplesTest(unittest.TestCase):
    def test_readme(self):
        text = (pathlib.Path(__file__).parent.parent / "README.md").read_text().replace("\n```\n", "\n\n")
        examples = doctest.DocTestParser().get_doctest(text, {}, "README.md", None, 0)
        self.assertGreater(len(examples.examples), 10)
        self.assertEqual(doctest.DocTestRunner().run(examples).failed, 0)

    def test_programs_of_the_document(self):
        early = Program(["x"], ["r"], [[("new", "x"), ("root", "r", "x"), ("mark", "x", 1)]])
        turn = Program(["x", "y"], ["a", "b"], [[("new", "x"), ("new", "y"), ("root", "a", "x"), ("root", "a", ""), ("root", "b", "y")]])
        body = [("new", "x"), ("new", "y"), ("new", "z"), ("point", "y", "f", "z"), ("point", "x", "f", "y"), ("root", "r", "x")]
        cut = Program(["x", "y", "z"], ["r"], [body + [("point", "x", "f", "z"), ("point", "y", "f", "")]], fields=["f"])
        self.assertEqual([is_right(program) for program in [early, turn, cut]], [True] * 3)
        self.assertEqual([len(Table(program)) for program in [early, turn, cut]], [4, 6, 9])
        again = [("new", "x"), ("root", "r", "x"), ("root", "r", ""), ("quiet",), ("free", "x")]
        self.assertIs(is_right(Program(["x"], ["r"], [again + again])), True)
        late = again[:3] + [("later", "x")]
        # By which slow frees a later is right is told in the document: by the last one alone.
        self.assertIs(is_right(Program(["x"], ["r"], [again + late])), True)
        self.assertIs(is_right(Program(["x"], ["r"], [late + again])), False)
        hasty = Program(["x"], ["r"], [again[:3] + again[4:]])
        self.assertIs(is_right(hasty), False)
