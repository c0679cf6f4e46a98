"""The examples that the document gives, with its answers."""

import doctest
import pathlib
import unittest

FOLDER = pathlib.Path(__file__).parent / "examples"


class Examples(unittest.TestCase):

    def check_examples(self, name):
        path = FOLDER / f"{name}.txt"
        many = len([line for line in path.read_text().split("\n") if line.startswith(">>>")])
        told = doctest.testfile(str(path), module_relative=False)
        self.assertEqual((told.failed, told.attempted), (0, many))
        self.assertGreater(many, 8)

    def test_forms(self):
        self.check_examples("forms")

    def test_fleets(self):
        self.check_examples("fleets")

    def test_plans(self):
        self.check_examples("plans")

    def test_words(self):
        self.check_examples("words")

    def test_edits(self):
        self.check_examples("edits")

    def test_differences(self):
        self.check_examples("differences")

    def test_leading(self):
        self.check_examples("leading")


if __name__ == "__main__":
    unittest.main()
