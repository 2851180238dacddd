"""The examples of README.md."""

import doctest
import pathlib
import re
import unittest

README = pathlib.Path(__file__).resolve().parent.parent / "README.md"


class ReadmeTest(unittest.TestCase):

    def test_examples(self):
        blocks = re.findall(r"```\n(>>>.*?)```", README.read_text(encoding="utf-8"), re.DOTALL)
        self.assertNotEqual(blocks, [])
        names, runner = {}, doctest.DocTestRunner()
        for number, block in enumerate(blocks):
            test = doctest.DocTestParser().get_doctest(block, names, f"block {number}", str(README), 0)
            runner.run(test, clear_globs=False)
            names = test.globs
        self.assertGreater(runner.tries, 20)
        self.assertEqual(runner.failures, 0)


if __name__ == "__main__":
    unittest.main()
