"""All examples of the document, with the answers that stand there; `examples.txt` has them, with a line between two."""

import ast
import os
import unittest

FOLDER = os.path.dirname(os.path.abspath(__file__))


def examples():
    """Return the examples: each a piece of code in which an answer stands as a remark behind what it answers."""
    with open(os.path.join(FOLDER, "examples.txt"), encoding="utf-8") as file:
        return file.read().split("\n----\n")


class Examples(unittest.TestCase):
    def test_each_answer_is_the_one_that_stands_there(self):
        answers = 0
        for code in examples():
            lines, names = code.split("\n"), {}
            for node in ast.parse(code).body:
                source = "\n".join(lines[node.lineno - 1:node.end_lineno])
                behind = lines[node.end_lineno] if node.end_lineno < len(lines) else ""
                if isinstance(node, ast.Expr) and behind.startswith("# "):
                    found = eval(source, names)
                    self.assertEqual(found, eval(behind[2:], names), source)
                    self.assertEqual(repr(found), behind[2:], source)
                    answers += 1
                else:
                    exec(source, names)
        self.assertGreater(answers, 80)


if __name__ == "__main__":
    unittest.main()
