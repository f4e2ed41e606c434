"""The examples that stand behind the promises."""

import doctest
import os
import unittest

EXAMPLES = os.path.join(os.path.dirname(os.path.abspath(__file__)), "examples.txt")


class Examples(unittest.TestCase):

    def test_all(self):
        told = doctest.testfile(EXAMPLES, module_relative=False, encoding="utf-8")
        self.assertGreater(told.attempted, 50)
        self.assertEqual(told.failed, 0)


if __name__ == "__main__":
    unittest.main()
