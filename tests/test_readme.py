"""What README.md shows of the program's use is what the program tells."""

import ast
import re
import unittest
from pathlib import Path

README = Path(__file__).resolve().parent.parent / "README.md"


class ReadmeTest(unittest.TestCase):
    def test_the_shown_answers(self):
        block = re.search("```python\\n(.*?)```", README.read_text("utf-8"), re.DOTALL).group(1)
        names = {}
        shown = 0
        for row in block.splitlines():
            asked, sign, answer = row.partition("#")
            if sign:
                self.assertEqual(eval(asked, names), ast.literal_eval(answer.strip()), row)
                shown += 1
            else:
                exec(asked, names)
        self.assertGreaterEqual(shown, 8)


if __name__ == "__main__":
    unittest.main()
