"""The examples of the document."""

import unittest

from fullbelts.counting import many_seatings
from fullbelts.denials import is_denial
from fullbelts.errors import NotStrong
from fullbelts.lots import lots
from fullbelts.machines import Machine, carried, put
from fullbelts.pieces import heirs, pieces
from fullbelts.programs import Program
from fullbelts.refuting import refutation
from fullbelts.rings import ring_carries
from fullbelts.seatings import seating
from fullbelts.shapes import shapes
from fullbelts.shortest import least_carries
from fullbelts.tables import table
from fullbelts.unrolling import copies
from fullbelts.verdicts import enough
from fullbelts.walks import renamings
from fullbelts.wants import need, wanted
from fullbelts.webs import faults
from samples import c, s

TWO = Machine((2,))
PLAIN = Machine((1, 1))


class Examples(unittest.TestCase):
    def test_e01(self):
        self.assertEqual(wanted(s()), [
            (), ("x",), ("x", "y"), ("x", "y"), ("t", "y"), ("t", "x"), ("x", "y"), ("y",), ()])
        self.assertEqual(need(s()), 2)

    def test_e02(self):
        program = Program((("test", "x", (1, 2)), ("make", "x", (), 2), ("tell", "x", 3), ("end",)))
        self.assertEqual(faults(program), [(0, "x"), (2, "x")])

    def test_e03(self):
        self.assertEqual(put((("y", "x"), (None,)), 0, "t"), (("t", "y"), (None,)))
        self.assertEqual(carried((("y", "x"), (None,)), [((0, 1), 0), ((0, 0), 1)]), (("x", "y"), ("x",)))

    def test_e04(self):
        self.assertEqual(table(c())[2], (("y", "x"),))
        self.assertIsNone(refutation(c()))

    def test_e05(self):
        self.assertEqual(pieces(s()), [[2, 3, 4, 5, 6]])
        self.assertEqual(heirs(s(), (3, 0)), {"x": "t", "y": "y"})

    def test_e06(self):
        self.assertEqual(renamings(s(), 0), [("x", "y"), ("y", "x")])
        self.assertEqual(lots(s(), 0), [(("x", "y"), 2, True)])

    def test_e07(self):
        self.assertIs(enough(s(), TWO), True)
        self.assertIs(enough(s(), PLAIN), False)
        self.assertIs(enough(s(), Machine((1, 1, 1))), True)

    def test_e08(self):
        self.assertIn(seating(s(), TWO)[2], ((("x", "y"),), (("y", "x"),)))
        self.assertEqual(many_seatings(s(), TWO, 0), 1)

    def test_e09(self):
        ring = ((2, 0, True), (3, 0, True), (4, 0, True), (5, 0, True))
        self.assertIs(is_denial(s(), PLAIN, ("rings", 2, (ring,))), True)

    def test_e10(self):
        self.assertEqual(shapes(s()), [(2,)])

    def test_e11(self):
        ring = ((2, 0, True), (3, 0, True), (4, 0, True), (5, 0, True))
        self.assertEqual(ring_carries(s(), TWO, seating(s(), TWO), 2, ring), (0,))

    def test_e12(self):
        self.assertEqual(copies(Program(s().steps[:6] + (("end",),)), PLAIN, 0), 2)
        with self.assertRaises(NotStrong):
            copies(s(), PLAIN, 0)

    def test_e13(self):
        self.assertEqual(least_carries((("x", "y"),), (("y", "x"),)), 1)
        self.assertIsNone(least_carries((("x",), ("y",)), (("y",), ("x",))))


if __name__ == "__main__":
    unittest.main()
