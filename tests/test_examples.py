"""The examples of the document, and those of the README."""

import doctest
import os
import unittest

from layoutline import errors

HERE = os.path.dirname(os.path.abspath(__file__))
README = os.path.join(os.path.dirname(HERE), "README.md")

# The examples as they stand in the document, with an empty line between two of them.
EXAMPLES = os.path.join(HERE, "examples.txt")
PROMPT = ">>> "


def read_examples():
    """Return for each example its statements and what its last statement returns or raises."""
    with open(EXAMPLES, encoding="ascii") as file:
        blocks = file.read().strip("\n").split("\n\n")
    examples = []
    for block in blocks:
        lines = block.split("\n")
        assert all(line.startswith(PROMPT) for line in lines[:-1])
        examples.append(([line[len(PROMPT):] for line in lines[:-1]], lines[-1]))
    return examples


def told_by(statement, names):
    """Return what a statement returns or raises, written as the document writes it."""
    try:
        return repr(eval(statement, names))
    except errors.LineError as error:
        fields = [f"{name}={value!r}" for name, value in vars(error).items() if name != "why"]
        if isinstance(error, errors.BadList):
            fields = [f"why={error.why!r}"]
        return f"raises {type(error).__name__}({', '.join(fields)})"


class Document(unittest.TestCase):

    def test_its_examples(self):
        examples = read_examples()
        self.assertEqual(len(examples), 43)
        for statements, told in examples:
            with self.subTest(statements=statements):
                names = {}
                for statement in statements[:-1]:
                    exec(statement, names)
                found = told_by(statements[-1], names)
                if told.startswith("raises ") and "(" not in told:
                    found = found.split("(")[0]
                self.assertEqual(found, told)


class Readme(unittest.TestCase):

    def test_its_examples(self):
        failed, tried = doctest.testfile(README, module_relative=False)
        self.assertEqual(failed, 0)
        self.assertGreater(tried, 5)


if __name__ == "__main__":
    unittest.main()
