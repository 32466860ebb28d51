"""The examples of the document, as they stand there, one part behind another with the names kept."""

import os
import unittest

from botheven import errors

FOLDER = os.path.join(os.path.dirname(os.path.abspath(__file__)), "examples")
PARTS = (
    "webs_lots_rounds.txt", "standings_deeds.txt", "ways_thick.txt", "joined.txt", "any_web.txt", "both_even_lots.txt",
    "trees_factors.txt", "sorts.txt", "drawings.txt", "rests_lamps.txt", "families_together.txt", "benches_shells.txt",
    "gaps_sizes.txt", "surfaces.txt", "sides.txt", "boxes.txt", "poles.txt", "namings_orbits.txt", "logs.txt",
)


def examples(name):
    """Return the pairs of a line of code and of what is told below it."""
    found = []
    with open(os.path.join(FOLDER, name), encoding="ascii") as file:
        for line in file.read().splitlines():
            if line.startswith(">>> "):
                found.append((line[4:], ""))
            else:
                code, told = found[-1]
                found[-1] = (code, told + line)
    return found


def what_comes(code, names):
    """Return what the code shows, in the document's words."""
    try:
        worth = eval(code, names)
    except SyntaxError:
        exec(code, names)
        return ""
    except errors.BothError as error:
        passed = ", ".join(repr(item) for item in vars(error).values())
        return f"raises {type(error).__name__}({passed})"
    return repr(worth)


class Examples(unittest.TestCase):
    def test_examples(self):
        names = {}
        for part in PARTS:
            rows = examples(part)
            self.assertGreater(len(rows), 5)
            for code, told in rows:
                with self.subTest(part=part, code=code):
                    self.assertEqual(what_comes(code, names), told)


if __name__ == "__main__":
    unittest.main()
