"""The examples of README.md are true."""

import doctest
import os
import unittest

README = os.path.join(os.path.dirname(os.path.abspath(__file__)), "..", "README.md")


class ReadmeTest(unittest.TestCase):
    def test_examples(self):
        found = doctest.testfile(README, module_relative=False)
        self.assertEqual(found.failed, 0)
        self.assertGreater(found.attempted, 80)


if __name__ == "__main__":
    unittest.main()
