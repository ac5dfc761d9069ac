"""The code in README.md, with the results that stand beside it."""

import re
import unittest
from pathlib import Path

README = Path(__file__).resolve().parent.parent / "README.md"


class Readme(unittest.TestCase):
    def test_results_of_the_code(self):
        code = re.search(r"```python\n(.*?)```", README.read_text(), re.DOTALL).group(1)
        names = {}
        compared = 0
        for line in code.splitlines():
            expression, _, result = line.partition("  # ")
            if result:
                compared += 1
                self.assertEqual(repr(eval(expression, names)), result, line)
            else:
                exec(line, names)
        self.assertGreater(compared, 20)


if __name__ == "__main__":
    unittest.main()
