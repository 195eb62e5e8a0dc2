"""Runs each example of the interface exactly as tests/examples.md gives it, and README.md."""

import doctest
import pathlib
import unittest

from leastheads.errors import HeadsError

EXAMPLES = pathlib.Path(__file__).with_name("examples.md")
README = pathlib.Path(__file__).parent.parent / "README.md"


def blocks_in(text):
    """The examples: for each, its commands and the line with what they return."""
    found = []
    for block in text.split("```\n")[1::2]:
        *commands, answer = block.strip().split("\n")
        found.append(([command.removeprefix(">>> ") for command in commands], answer))
    return found


def answer_of(commands):
    """What the last of the commands returns or raises, written as in an example."""
    names = {}
    for command in commands[:-1]:
        exec(command, names)
    try:
        return repr(eval(commands[-1], names))
    except HeadsError as error:
        kept = ", ".join(f"{field}={value!r}" for field, value in vars(error).items())
        return f"raises {type(error).__name__}({kept})" if kept else f"raises {type(error).__name__}"


class ExamplesTest(unittest.TestCase):
    def test_the_examples(self):
        examples = blocks_in(EXAMPLES.read_text(encoding="utf-8"))
        self.assertEqual(len(examples), 50)
        for commands, answer in examples:
            with self.subTest(commands=commands):
                self.assertEqual(answer_of(commands), answer)

    def test_the_readme(self):
        # The fences around the examples are no part of their answers.
        text = README.read_text(encoding="utf-8").replace("```", "")
        examples = doctest.DocTestParser().get_doctest(text, {}, "README.md", None, 0)
        self.assertGreater(len(examples.examples), 35)
        self.assertEqual(doctest.DocTestRunner().run(examples).failed, 0)


if __name__ == "__main__":
    unittest.main()
