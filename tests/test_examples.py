"""The examples that the document gives, with its answers; and those of README.md."""

import contextlib
import doctest
import io
import pathlib
import re
import unittest

FOLDER = pathlib.Path(__file__).parent / "examples"
README = FOLDER.parent.parent / "README.md"


class Examples(unittest.TestCase):

    def check_examples(self, name):
        path = FOLDER / f"{name}.txt"
        many = len([line for line in path.read_text().split("\n") if line.startswith(">>>")])
        told = doctest.testfile(str(path), module_relative=False)
        self.assertEqual((told.failed, told.attempted), (0, many))
        self.assertGreater(many, 8)

    def test_forms(self):
        self.check_examples("forms")

    def test_fleets(self):
        self.check_examples("fleets")

    def test_plans(self):
        self.check_examples("plans")

    def test_words(self):
        self.check_examples("words")

    def test_edits(self):
        self.check_examples("edits")

    def test_differences(self):
        self.check_examples("differences")

    def test_leading(self):
        self.check_examples("leading")

    def test_between(self):
        self.check_examples("between")

    def test_merges(self):
        self.check_examples("merges")

    def test_classes(self):
        self.check_examples("classes")

    def test_heights(self):
        self.check_examples("heights")

    def test_days(self):
        self.check_examples("days")

    def test_house(self):
        self.check_examples("house")

    def test_readme(self):
        blocks = re.findall("```([a-z]*)\n(.*?)```", README.read_text(), re.DOTALL)
        code = "".join(text for kind, text in blocks if kind == "python")
        answers = [text for kind, text in blocks if not kind and "unittest" not in text and ".ci/run" not in text]
        printed = io.StringIO()
        with contextlib.redirect_stdout(printed):
            exec(code, {})
        self.assertEqual(printed.getvalue(), "".join(answers))
        self.assertGreater(len(answers), 1)


if __name__ == "__main__":
    unittest.main()
