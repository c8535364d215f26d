"""The search behind [25], [26], [29] and [31]: that it ends, and that what it returns proves itself."""

import random
import unittest
from fractions import Fraction
from unittest.mock import patch

from racebooks.solving import Table, game, greatest, settled
from tests.helpers import Case, pair

# Rows whose bounds are 0, and worths, of amounts that come to at most 1 together. With each of them the exchanges
# go round for ever if the amounts to exchange are chosen otherwise: the last or first column that makes the worth
# greater, the column that does so most, the first of the lines that could leave.
ROUND = (
    (((4, -1, -5, 6), (3, 5, -4, -6), (3, 0, -3, -5)), (5, 1, -6, 2)),
    (((6, -1, -5, 2, -3, -5), (3, 3, 4, 1, 0, -4), (-2, -2, -3, 5, 2, -4)), (-3, 3, 2, 3, -1, -3)),
    (((7, -6, 3, 3, 6, -2), (-5, -10, -8, 8, 4, 3), (1, -5, -3, 10, 1, -8)), (7, -5, -10, 9, -4, -3)),
    (((-10, 0, 2, -9, 10, -5), (-5, 4, -10, -2, -4, 2), (9, 1, -6, -2, 4, 7)), (3, 2, -5, -4, -4, 1)),
    (((1, -3, -5, 4, -5, -6), (6, -3, -4, -1, -2, -3)), (2, -4, -3, 1, -3, 1)),
    (((-6, 1, -9, -3, 7, -3), (6, 2, 9, -9, 10, -1), (6, 6, -4, -9, -6, -4)), (4, 4, 2, -9, 10, 0)),
    (((-6, 6, -10, 10, 10, 2), (8, 3, -8, -8, 3, -3), (5, 8, 6, 9, -10, -4)), (8, 9, -5, -7, 1, -8)),
    (((3, -2, 0, -1, -2), (2, -3, 1, -2, 0), (2, 2, 3, -3, 2)), (-3, 1, 3, -2, -3)),
    (((1, -4, 2, 1, -5, -5), (-2, 2, 5, -5, 6, 3), (1, -1, 3, -3, -2, 4)), (-6, 1, 0, -5, 3, 4)),
    (((0, 0, 1, -3, 3, -1), (0, -3, -2, -1, -1, -2), (1, 1, 2, -3, 1, -2)), (0, 1, 3, -2, -3, 2)),
    (((-6, -8, 0, 2, -7, 1), (-9, -3, -2, -7, 1, -4), (-8, -6, 6, 5, -9, 3)), (-1, -10, -2, 3, 4, 10)),
    (((0, 3, -10, 5), (-4, 2, -4, 10), (-10, 6, -9, 5)), (-6, 2, -2, -3)),
    (((-4, 5, -5, -4, -1, -6), (-3, -5, -5, 6, -4, 2), (-2, 4, -3, 0, 6, -1)), (-2, -3, -5, 6, -6, -2)))
MOST_EXCHANGES = 500


def wholes(numbers):
    return [(number, 1) for number in numbers]


def sum_of_products(lefts, rights):
    return sum((Fraction(*left) * Fraction(*right) for left, right in zip(lefts, rights, strict=True)), Fraction(0))


class Solving(Case):
    def setUp(self):
        self.exchanges = 0
        exchange = Table._exchange

        def counted(table, line, column):
            self.exchanges += 1
            self.assertLessEqual(self.exchanges, MOST_EXCHANGES, "the exchanges go round")
            exchange(table, line, column)

        patched = patch.object(Table, "_exchange", counted)
        patched.start()
        self.addCleanup(patched.stop)

    def assert_greatest(self, rows, bounds, worths):
        self.exchanges = 0
        worth, amounts, prices = greatest(rows, bounds, worths)
        self.assert_plain((worth, amounts, prices))
        self.assertEqual(sum_of_products(worths, amounts), Fraction(*worth))
        self.assertEqual(sum_of_products(bounds, prices), Fraction(*worth))
        self.assertTrue(all(number[0] >= 0 for number in amounts + prices))
        for row, bound in zip(rows, bounds, strict=True):
            self.assertLessEqual(sum_of_products(row, amounts), Fraction(*bound))
        for at, told in enumerate(worths):
            self.assertGreaterEqual(sum_of_products([row[at] for row in rows], prices), Fraction(*told))

    def test_it_ends(self):
        for rows, worths in ROUND:
            lines = [wholes(row) for row in rows] + [wholes((1,) * len(worths))]
            self.assert_greatest(lines, wholes((0,) * len(rows) + (1,)), wholes(worths))

    def test_drawn(self):
        draw = random.Random(3)
        for number in range(300):
            many, size = draw.randint(1, 12), draw.choice((1, 3, 50))
            rows = [[pair(Fraction(draw.randint(-size, size), draw.randint(1, size))) for _ in range(many)]
                    for _ in range(draw.randint(0, 6))]
            bounds = [pair(Fraction(draw.choice((0, 0, 1, 5)), draw.randint(1, 9))) for _ in rows]
            limit = pair(Fraction(draw.randint(1, 9), draw.randint(1, 9)))
            worths = [pair(Fraction(draw.randint(-size, size), draw.randint(1, 7))) for _ in range(many)]
            self.assert_greatest(rows + [wholes((1,) * many)], bounds + [limit], worths)

    def test_game(self):
        self.assertEqual(game([wholes((3, -1)), wholes((-1, 3))]), ((1, 1), ((1, 2), (1, 2)), ((1, 2), (1, 2))))
        self.assertEqual(game([wholes((-5, -3))]), ((-5, 1), ((1, 1),), ((1, 1), (0, 1))))
        self.assertEqual(game([wholes((2,)), wholes((7,))]), ((7, 1), ((0, 1), (1, 1)), ((1, 1),)))

    def test_settled(self):
        self.assertEqual(settled([wholes((3, -1)), wholes((-1, 3))], 2), ("stakes", ((1, 2), (1, 2))))
        self.assertEqual(settled([wholes((1, -1)), wholes((-1, 1))], 2), ("chances", ((1, 2), (1, 2))))
        word, chances = settled([wholes((5, -1))], 2)
        self.assertEqual((word, sum_of_products(chances, wholes((1, 1)))), ("chances", 1))
        self.assertLessEqual(sum_of_products(chances, wholes((5, -1))), 0)
        word, chances = settled([], 3)
        self.assertEqual((word, len(chances), sum_of_products(chances, wholes((1,) * 3))), ("chances", 3, 1))


if __name__ == "__main__":
    unittest.main()
