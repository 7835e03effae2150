"""The examples of the document, copied word for word into the folder beside this file."""

import unittest
from pathlib import Path

EXAMPLES = Path(__file__).parent / "examples"


class ExamplesTest(unittest.TestCase):
    def run_block(self, name):
        """Look at each line that has its answer, behind a `# `, in the line below; do all others."""
        lines = (EXAMPLES / name).read_text().splitlines()
        names, many = {}, 0
        for line, below in zip(lines, lines[1:] + [""]):
            if below.startswith("# "):
                self.assertEqual(below[2:], repr(eval(line, names)), line)
                many += 1
            elif not line.startswith("# "):
                exec(line, names)
        return many

    def test_deeds(self):
        self.assertEqual(5, self.run_block("deeds.txt"))


if __name__ == "__main__":
    unittest.main()
