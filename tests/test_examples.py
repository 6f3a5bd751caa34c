"""The examples of the document."""

import unittest

from fullbelts.programs import Program
from fullbelts.wants import need, wanted
from fullbelts.webs import faults
from samples import s


class Examples(unittest.TestCase):
    def test_e01(self):
        self.assertEqual(wanted(s()), [
            (), ("x",), ("x", "y"), ("x", "y"), ("t", "y"), ("t", "x"), ("x", "y"), ("y",), ()])
        self.assertEqual(need(s()), 2)

    def test_e02(self):
        program = Program((("test", "x", (1, 2)), ("make", "x", (), 2), ("tell", "x", 3), ("end",)))
        self.assertEqual(faults(program), [(0, "x"), (2, "x")])


if __name__ == "__main__":
    unittest.main()
