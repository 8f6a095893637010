import doctest
import pathlib
import unittest

README = pathlib.Path(__file__).resolve().parent.parent / "README.md"


class Readme(unittest.TestCase):
    def test_examples(self):
        blocks = [block for block in README.read_text().split("```")[1::2] if block.startswith("\n>>>")]
        self.assertGreater(len(blocks), 1)
        test = doctest.DocTestParser().get_doctest("".join(blocks), {}, "README.md", str(README), 0)
        told = []
        doctest.DocTestRunner(verbose=False).run(test, out=told.append)
        self.assertEqual("".join(told), "")
