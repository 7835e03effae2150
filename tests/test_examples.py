"""The examples of the document, copied word for word into the folder beside this file."""

import unittest
from pathlib import Path

EXAMPLES = Path(__file__).parent / "examples"


class ExamplesTest(unittest.TestCase):
    def run_block(self, name):
        """Look at each line that has its answer, behind a `# `, in the line below; do all others."""
        lines = (EXAMPLES / name).read_text().splitlines()
        names, many = {}, 0
        for line, below in zip(lines, lines[1:] + [""]):
            if below.startswith("# "):
                # An answer may be written with either kind of quotes.
                self.assertEqual(repr(eval(below[2:], {})), repr(eval(line, names)), line)
                many += 1
            elif not line.startswith("# "):
                exec(line, names)
        return many

    def test_deeds(self):
        self.assertEqual(5, self.run_block("deeds.txt"))

    def test_cores(self):
        self.assertEqual(6, self.run_block("cores.txt"))

    def test_setcounts(self):
        self.assertEqual(5, self.run_block("setcounts.txt"))

    def test_standards(self):
        self.assertEqual(6, self.run_block("standards.txt"))

    def test_ways(self):
        self.assertEqual(4, self.run_block("ways.txt"))

    def test_classes(self):
        self.assertEqual(3, self.run_block("classes.txt"))

    def test_rounds(self):
        self.assertEqual(4, self.run_block("rounds.txt"))

    def test_tables(self):
        self.assertEqual(6, self.run_block("tables.txt"))

    def test_grown(self):
        self.assertEqual(2, self.run_block("grown.txt"))


if __name__ == "__main__":
    unittest.main()
