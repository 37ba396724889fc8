"""The simplex method that points 86 and 105 are built on: numbers under bounds, and prices that prove them greatest."""

import random
import unittest
from fractions import Fraction

from wishshapes.simplex import greatest_sum, greatest_value


class TestGreatestValue(unittest.TestCase):
    def check(self, columns, gains, bounds):
        values, prices, unit = greatest_value(columns, gains, bounds)
        self.assertTrue(unit > 0 and min(values) >= 0 and min(prices) >= 0)
        for at, bound in enumerate(bounds):
            self.assertLessEqual(sum(value * column[at] for value, column in zip(values, columns)), bound * unit)
        for column, gain in zip(columns, gains):
            self.assertGreaterEqual(sum(price * number for price, number in zip(prices, column)), gain * unit)
        total = sum(value * gain for value, gain in zip(values, gains))
        self.assertEqual(sum(price * bound for price, bound in zip(prices, bounds)), total)
        return Fraction(total, unit)

    def test_gains(self):
        self.assertEqual(self.check([[1], [1]], [1, 3], [4]), 12)
        self.assertEqual(self.check([[1, 1], [1, 2]], [2, 3], [4, 5]), 9)
        self.assertEqual(self.check([[2]], [0], [4]), 0)

    def test_numbers_less_than_0(self):
        # The first number may not be more than the second one, which the second bound keeps finite.
        self.assertEqual(self.check([[1, 0], [-1, 1]], [1, 0], [0, 5]), 5)
        self.assertEqual(self.check([[2, 3, 0, 0], [-1, 0, 1, 0], [0, -1, 1, 1]], [1, 0, 0], [0, 0, 4, 2]),
                         Fraction(2, 3))

    def test_many(self):
        chance = random.Random(61)
        for _ in range(300):
            places, many = chance.randint(1, 4), chance.randint(1, 7)
            columns = [[chance.choice((-1, 0, 0, 1, 2)) for _ in range(places)] + [1] for _ in range(many)]
            gains = [chance.choice((0, 0, 1, 2)) for _ in columns]
            self.check(columns, gains, [chance.choice((0, 0, 1, 3)) for _ in range(places)] + [chance.randint(0, 4)])


class TestGreatestSum(unittest.TestCase):
    def check(self, columns, bounds):
        values, prices, unit = greatest_sum(columns, bounds)
        self.assertEqual((len(values), len(prices)), (len(columns), len(bounds)))
        self.assertTrue(unit > 0 and min(values) >= 0 and min(prices) >= 0)
        for at, bound in enumerate(bounds):
            self.assertLessEqual(sum(value * column[at] for value, column in zip(values, columns)), bound * unit)
        for column in columns:
            self.assertGreaterEqual(sum(price * number for price, number in zip(prices, column)), unit)
        self.assertEqual(sum(price * bound for price, bound in zip(prices, bounds)), sum(values))
        return values, prices, unit

    def test_one_column(self):
        self.assertEqual(self.check([[1]], [5]), ([5], [1], 1))
        self.assertEqual(self.check([[2]], [5]), ([5], [1], 2))
        self.assertEqual(self.check([[1, 1]], [5, 3]), ([3], [0, 1], 1))

    def test_bounds_that_are_0(self):
        values, _, _ = self.check([[1, 0], [1, 1], [0, 1]], [0, 4])
        self.assertEqual(values, [0, 0, 4])
        self.assertEqual(self.check([[1, 1], [1, 2]], [0, 0])[0], [0, 0])

    def test_halves(self):
        values, prices, unit = self.check([[1, 1, 0], [1, 0, 1], [0, 1, 1]], [1, 1, 1])
        self.assertEqual((sum(values) * 2, unit * 3, set(prices)), (unit * 3, 3 * unit, {prices[0]}))

    def test_many(self):
        chance = random.Random(60)
        for _ in range(400):
            places = chance.randint(1, 6)
            columns = []
            while len(columns) < chance.randint(1, 9):
                column = [chance.choice((0, 0, 1, 1, 2)) for _ in range(places)]
                if any(column):
                    columns.append(column)
            if columns:
                self.check(columns, [chance.choice((0, 1, 1, 2, 5)) for _ in range(places)])

    def test_nothing_that_is_passed_is_changed(self):
        columns, bounds = [[1, 1], [0, 1]], [2, 3]
        self.check(columns, bounds)
        self.assertEqual((columns, bounds), ([[1, 1], [0, 1]], [2, 3]))


if __name__ == "__main__":
    unittest.main()
