import unittest
from fractions import Fraction

from coinledgers.parts import are_against, part, piece


class PartTest(unittest.TestCase):
    def test_whole(self):
        self.assertEqual(part(10, 3, 5), 6)
        self.assertEqual(part(0, 3, 5), 0)
        self.assertEqual(part(7, 0, 5), 0)

    def test_nearest(self):
        self.assertEqual(part(10, 1, 3), 3)
        self.assertEqual(part(10, 2, 3), 7)
        self.assertEqual(part(-10, 1, 3), -3)
        self.assertEqual(part(-10, 2, 3), -7)

    def test_halves_go_away_from_0(self):
        self.assertEqual(part(1, 1, 2), 1)
        self.assertEqual(part(3, 1, 2), 2)
        self.assertEqual(part(-1, 1, 2), -1)
        self.assertEqual(part(-3, 1, 2), -2)
        self.assertEqual(part(3, 1, -2), -2)
        self.assertEqual(part(3, -1, 2), -2)
        self.assertEqual(part(-3, -1, 2), 2)
        self.assertEqual(part(-3, 1, -2), 2)
        self.assertEqual(part(3, -1, -2), 2)
        self.assertEqual(part(-3, -1, -2), -2)

    def test_by_0(self):
        self.assertEqual(part(5, 7, 0), 0)
        self.assertEqual(part(0, 0, 0), 0)
        self.assertEqual(piece(5, 1, 2, 0), 0)

    def test_big(self):
        self.assertEqual(part(10 ** 18 + 1, 1, 2), 500000000000000001)
        self.assertEqual(part(10 ** 30 + 1, 3, 3), 10 ** 30 + 1)

    def test_nearest_by_fractions(self):
        for amount in range(-9, 10):
            for over in range(-4, 5):
                for under in (-6, -5, -4, -3, -2, -1, 1, 2, 3, 4, 5, 6):
                    exact = Fraction(amount * over, under)
                    found = part(amount, over, under)
                    off = abs(found - exact)
                    self.assertLessEqual(off, Fraction(1, 2))
                    if off == Fraction(1, 2):
                        self.assertGreater(abs(found), abs(exact))

    def test_pieces_make_the_whole(self):
        self.assertEqual([piece(10, k, k + 1, 3) for k in range(3)], [3, 4, 3])
        self.assertEqual([piece(-10, k, k + 1, 3) for k in range(3)], [-3, -4, -3])
        self.assertEqual([piece(10, -k, -k - 1, -3) for k in range(3)], [3, 4, 3])
        self.assertEqual(piece(11, 0, 1, 2), 6)
        self.assertEqual(piece(11, 1, 2, 2), 5)

    def test_against(self):
        self.assertTrue(are_against(1, -1))
        self.assertTrue(are_against(-1, 1))
        for pair in ((0, 1), (1, 0), (0, -1), (0, 0), (1, 1), (-1, -1)):
            self.assertFalse(are_against(*pair))
