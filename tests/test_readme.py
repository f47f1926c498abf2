"""The examples of README.md are so."""

import doctest
import pathlib
import unittest

README = pathlib.Path(__file__).resolve().parent.parent / "README.md"


class Readme(unittest.TestCase):
    def test_examples(self):
        told = doctest.testfile(str(README), module_relative=False, encoding="utf-8")
        self.assertEqual(told.failed, 0)
        self.assertGreater(told.attempted, 10)


if __name__ == "__main__":
    unittest.main()
