"""The examples of README.md: they run, and what is said behind them is what they tell."""

import ast
import pathlib
import re
import unittest

README = pathlib.Path(__file__).resolve().parent.parent / "README.md"


def said(row):
    """What a remark says that is told, in its first words; None where it says something else."""
    words = row.partition("#")[2].strip()
    for text in (words, words.partition(": ")[0]):
        try:
            return (ast.literal_eval(text),)
        except (SyntaxError, ValueError):
            pass
    return None


class Examples(unittest.TestCase):
    def test_all(self):
        names = {}
        looked_at = 0
        for block in re.findall(r"```python\n(.*?)```", README.read_text(), re.S):
            rows = block.split("\n")
            for node in ast.parse(block).body:
                code = ast.unparse(node)
                if not isinstance(node, ast.Expr):
                    exec(code, names)
                    continue
                answer = eval(code, names)
                wanted = said(rows[node.end_lineno - 1][node.end_col_offset:])
                if wanted is not None:
                    looked_at += 1
                    self.assertEqual(answer, wanted[0], code)
        self.assertGreater(looked_at, 40)


if __name__ == "__main__":
    unittest.main()
