"""The examples of README.md can be run, one behind the other."""

import pathlib
import re
import unittest

README = pathlib.Path(__file__).resolve().parent.parent / "README.md"


class ReadmeTest(unittest.TestCase):
    def test_examples(self):
        blocks = re.findall(r"```python\n(.*?)```", README.read_text(), re.DOTALL)
        self.assertGreater(len(blocks), 2)
        names = {}
        for block in blocks:
            exec(compile(block, "README.md", "exec"), names)
        self.assertEqual(names["watch"].makes(0)[1], ("make", 0, ("word", 7), None))
        self.assertEqual((names["twins"].parted(), names["twins"].fault()), (None, None))
        self.assertEqual(names["told"][1].term[0], "here")
