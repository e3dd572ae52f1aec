import random
import unittest
from fractions import Fraction

from nearposts.fractions import fraction_of, greatest_of, is_below, least_of, places_by_size, rising_unlike
from reckoning import BIG, pair


class FractionsTest(unittest.TestCase):
    def test_fraction_of_has_lowest_terms_and_bottom_from_1_on(self):
        for top in list(range(-30, 31)) + [BIG, -BIG, 3 * BIG]:
            for bottom in list(range(1, 31)) + [BIG, 6 * BIG]:
                with self.subTest(top=top, bottom=bottom):
                    self.assertEqual(fraction_of(top, bottom), pair(Fraction(top, bottom)))

    def test_nought_is_nought_over_1(self):
        self.assertEqual(fraction_of(0, 1), (0, 1))
        self.assertEqual(fraction_of(0, BIG), (0, 1))

    def test_is_below(self):
        values = sorted({Fraction(top, bottom) for top in range(-7, 8) for bottom in range(1, 6)})
        values = [-Fraction(BIG)] + values + [Fraction(BIG - 1, 1), Fraction(BIG)]
        for at, one in enumerate(values):
            for behind, other in enumerate(values):
                self.assertIs(is_below(pair(one), pair(other)), at < behind)

    def test_is_below_tells_great_fractions_apart(self):
        self.assertTrue(is_below((BIG - 1, BIG), (BIG, BIG + 1)))
        self.assertFalse(is_below((BIG, BIG + 1), (BIG - 1, BIG)))

    def test_least_and_greatest(self):
        several = [(1, 2), (-1, 3), (2, 3), (-1, 2), (5, 8)]
        self.assertEqual(least_of(several), (-1, 2))
        self.assertEqual(greatest_of(several), (2, 3))
        self.assertEqual(least_of([(7, 9)]), (7, 9))
        self.assertEqual(greatest_of([(7, 9)]), (7, 9))
        self.assertEqual(several, [(1, 2), (-1, 3), (2, 3), (-1, 2), (5, 8)])

    def test_rising_unlike(self):
        chance = random.Random(3)
        values = {Fraction(top, bottom) for top in range(-7, 8) for bottom in range(1, 6)}
        values |= {Fraction(BIG - 1, BIG), Fraction(BIG, BIG + 1), Fraction(BIG - 2, BIG - 1), Fraction(1, BIG)}
        several = [pair(value) for value in sorted(values)] * 2
        for at in range(5):
            chance.shuffle(several)
            kept = list(several)
            self.assertEqual(rising_unlike(several), [pair(value) for value in sorted(values)])
            self.assertEqual(several, kept)
        self.assertEqual(rising_unlike([(7, 9)]), [(7, 9)])

    def test_places_by_size(self):
        chance = random.Random(4)
        values = [Fraction(top, bottom) for top in range(-5, 6) for bottom in range(1, 5)]
        values += [Fraction(BIG - 1, BIG), Fraction(BIG, BIG + 1), Fraction(BIG - 2, BIG - 1), -Fraction(1, BIG)]
        for at in range(5):
            chance.shuffle(values)
            told = places_by_size([pair(value) for value in values])
            self.assertEqual(told, sorted(range(len(values)), key=lambda place: (values[place], place)))
        self.assertEqual(places_by_size([]), [])


if __name__ == "__main__":
    unittest.main()
