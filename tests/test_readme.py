"""README.md: its examples print what stands behind them."""

import contextlib
import io
import re
import unittest
from pathlib import Path

README = Path(__file__).resolve().parent.parent / "README.md"


class TestReadme(unittest.TestCase):
    def test_examples(self):
        names, told = {}, []
        printed = io.StringIO()
        for block in re.findall(r"```python\n(.*?)```", README.read_text(encoding="utf-8"), re.DOTALL):
            told += [row.split("# ", 1)[1] for row in block.split("\n") if row.startswith("print(")]
            with contextlib.redirect_stdout(printed):
                exec(block, names)
        self.assertTrue(told)
        self.assertEqual(printed.getvalue().split("\n")[:-1], told)
