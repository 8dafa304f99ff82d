import contextlib
import io
import pathlib
import re
import unittest

README = pathlib.Path(__file__).resolve().parent.parent / "README.md"


class TestReadme(unittest.TestCase):
    """What README.md shows is so: a print that has a comment prints just this."""

    def test_each_piece(self):
        pieces = re.findall("```python\n(.*?)```", README.read_text(), re.DOTALL)
        self.assertGreater(len(pieces), 4)
        told = 0
        for piece in pieces:
            printed = io.StringIO()
            with contextlib.redirect_stdout(printed):
                exec(piece, {})
            lines = printed.getvalue().split("\n")
            for comment in re.findall("print.*\\) +# (.*)", piece):
                self.assertIn(comment, lines)
                told += 1
        self.assertGreater(told, 8)


if __name__ == "__main__":
    unittest.main()
