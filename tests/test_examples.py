"""The examples of the document, from examples.txt; names mean the same from their first use on."""

import ast
import pathlib
import unittest

from hullrests.errors import HullError

FOLDER = pathlib.Path(__file__).resolve().parent
TEXT = (FOLDER / "examples.txt").read_text()
README = (FOLDER.parent / "README.md").read_text()
PROMPT = ">>> "


def examples(text):
    """The triples (HEADING, CODE, ANSWER) in their order; the answer is "" where none is told."""
    heading, found = None, []
    for line in text.splitlines():
        if line.startswith("## "):
            heading = line[3:]
        elif line.startswith(PROMPT):
            found.append((heading, line[len(PROMPT):], ""))
        else:
            found.append((heading, found.pop()[1], line))
    return found


def shown(error):
    """An error as the document writes it."""
    attributes = ", ".join(f"{name}={value!r}" for name, value in vars(error).items())
    return f"raises {error.__class__.__name__}({attributes})"


class ExamplesTest(unittest.TestCase):
    def holds(self, names, code, answer):
        """Holds that an example answers, or raises, as it tells."""
        if not answer:
            exec(code, names)
        elif answer.startswith("raises "):
            with self.assertRaises(HullError) as caught:
                exec(code, names)
            self.assertEqual(answer, shown(caught.exception))
        else:
            self.assertEqual(ast.literal_eval(answer), eval(code, names))

    def test_examples(self):
        names, many = {}, {}
        for heading, code, answer in examples(TEXT):
            with self.subTest(heading, code=code):
                self.holds(names, code, answer)
                many[heading] = many.get(heading, 0) + bool(answer)
        self.assertEqual({"hullrests/points.py": 1, "hullrests/sections.py": 2, "hullrests/cuts.py": 2,
                          "hullrests/stands.py": 2, "hullrests/levers.py": 1, "hullrests/metacentres.py": 1,
                          "hullrests/rows.py": 4, "hullrests/righting.py": 2, "hullrests/rests.py": 3,
                          "hullrests/lots.py": 5, "hullrests/draughts.py": 5, "hullrests/drypoints.py": 5,
                          "hullrests/notes.py": 5, "hullrests/heels.py": 3, "hullrests/loads.py": 4,
                          "hullrests/certificates.py": 5}, many)

    def test_readme(self):
        names, many = {}, 0
        for heading, code, answer in examples("\n".join(part.strip() for part in README.split("```")[1:4:2])):
            with self.subTest(code=code):
                self.holds(names, code, answer)
                many += bool(answer)
        self.assertEqual(18, many)


if __name__ == "__main__":
    unittest.main()
