"""The examples that the interface gives, as they stand there."""

import unittest
from pathlib import Path

from selfwritten import errors

EXAMPLES = (Path(__file__).resolve().parent / "examples.txt").read_text()
DOC = Path(__file__).resolve().parent.parent.parent / "shared" / "DOC.md"


def raised(told, error):
    """Whether `raises X(..)` tells this error, by position or by keyword."""
    name, _, rest = told.removeprefix("raises ").partition("(")
    values, named = eval("(lambda *values, **named: (values, named))(" + rest)
    held = vars(error)
    same = tuple(held.values())[:len(values)] == values
    return same and named.items() <= held.items() and type(error).__name__ == name


class Examples(unittest.TestCase):
    def run_example(self, example):
        *lines, told = example.split("\n")
        rows = [line.removeprefix(">>> ") for line in lines]
        names = {}
        for row in rows[:-1]:
            exec(row, names)
        if not told.startswith("raises "):
            self.assertEqual(repr(eval(rows[-1], names)), told)
            return
        with self.assertRaises(errors.Refusal) as caught:
            eval(rows[-1], names)
        self.assertTrue(raised(told, caught.exception), told)

    @unittest.skipUnless(DOC.exists(), "the document is not here")
    def test_they_stand_in_the_document(self):
        text = DOC.read_text()
        for example in EXAMPLES.strip("\n").split("\n\n"):
            self.assertIn(example + "\n", text)

    def test_each_example(self):
        examples = EXAMPLES.strip("\n").split("\n\n")
        self.assertEqual(len(examples), 45)
        for example in examples:
            with self.subTest(example):
                self.run_example(example)


if __name__ == "__main__":
    unittest.main()
