"""[8], [9], [12] to [14], [36] to [42]"""

import random
import unittest
from fractions import Fraction
from itertools import product

from racebooks.errors import BadValue, TooMany
from racebooks.pools import comes, least_stakes, payments, pool_gain, spread
from tests.helpers import ANY_VALUES, NO_FRACTIONS, NO_INTEGERS, NO_SEQUENCES, Case, listed, nested, pair

# Keeps a tenth, pays in steps of a tenth.
POOL = ((1, 10), (1, 10), 2)
WHOLE = ((0, 1), (1, 1), 2)
MOST = 10 ** 9
POOLS = (((0, 1), (1, 1)), ((0, 1), (1, 2)), ((1, 10), (1, 10)), ((1, 4), (1, 1)), ((1, 2), (1, 1)), ((9, 10), (1, 3)),
         ((3, 5), (3, 4)), ((19, 100), (1, 100)), ((1, 3), (99, 100)))
WRONG_POOLS = (
    (POOL[:2], POOL + (1,), (POOL,), POOL[::-1], ((1, 10), 2, (1, 10)))
    + tuple((kept,) + POOL[1:] for kept in NO_FRACTIONS)
    + tuple((kept,) + POOL[1:] for kept in ((1, 1), (2, 1), (-1, 10), (-1, 10 ** 30), (10 ** 30 + 1, 10 ** 30)))
    + tuple((POOL[0], step, 2) for step in NO_FRACTIONS)
    + tuple((POOL[0], step, 2) for step in ((0, 1), (-1, 2), (2, 1), (101, 100), (1, 101), (100, 101), (1, 10 ** 30)))
    + tuple(POOL[:2] + (runners,) for runners in NO_INTEGERS + (0, 5, -1, 10 ** 30, (2, 1))))


def told_payments(pool, stakes):
    """The payments as Fractions or None: by going down from the exact quotient to a multiple of the step."""
    kept, step = Fraction(*pool[0]), Fraction(*pool[1])
    paid = []
    for stake in stakes:
        exact = (1 - kept) * sum(stakes) / stake if stake else None
        paid.append(None if exact is None else max(Fraction(0), exact - exact % step))
    return paid


def told_row(pool, stakes):
    return tuple(None if paid is None else pair(paid) for paid in told_payments(pool, stakes))


def told_spread(pool, row):
    kept, step = Fraction(*pool[0]), Fraction(*pool[1])
    numbers = [Fraction(*paid) for paid in row if paid is not None]
    lows = sum((1 - kept) / (number + step) for number in numbers)
    highs = sum(1 if number == 0 else min(Fraction(1), (1 - kept) / number) for number in numbers)
    return Fraction(lows), Fraction(highs)


def all_stakes(runners, most):
    """All stakes with a sum up to most, ascending by their sum, then as tuples."""
    found = [stakes for stakes in product(range(most + 1), repeat=runners) if 0 < sum(stakes) <= most]
    return sorted(found, key=lambda stakes: (sum(stakes), stakes))


def least_by_row(pool, most):
    """For each row that comes of stakes with a sum up to most, the first of these."""
    found = {}
    for stakes in all_stakes(pool[2], most):
        found.setdefault(told_row(pool, stakes), stakes)
    return found


def drawn_pool(draw):
    kept = draw.choice((Fraction(0), Fraction(draw.randint(0, 19), 20), Fraction(draw.randint(0, 98), 99)))
    bottom = draw.choice((1, 2, 10, 100, draw.randint(1, 100)))
    return (pair(kept), pair(Fraction(draw.randint(1, bottom), bottom)), draw.randint(1, 4))


def drawn_stakes(draw, runners, most):
    stakes = [draw.choice((0, draw.randint(0, most), draw.randint(1, 9), most)) for _ in range(runners)]
    stakes[draw.randrange(runners)] = draw.randint(1, most)
    return tuple(stakes)


class PoolCase(Case):
    def calls(self):
        """Each function with arguments that are right for POOL."""
        return ((payments, ((1, 2),)), (comes, (((1, 1), None),)), (least_stakes, (((1, 1), None),)),
                (spread, (((1, 1), None),)), (pool_gain, ((1, 2), (0, 1))))

    def assert_row(self, pool, row, least):
        """That the row comes, and its least stakes are the told ones; or that it does not, if these are None."""
        self.assertIs(comes(pool, row), least is not None)
        self.assertEqual(least_stakes(pool, row), least)
        if least is not None:
            self.assertEqual(payments(pool, least), row)


class Arguments(PoolCase):
    def test_wrong_pools(self):
        for function, rest in self.calls():
            function(POOL, *rest)
            for pool in ANY_VALUES + WRONG_POOLS + (nested(40),):
                self.assert_raises_with(BadValue, 1, function, pool, *rest)
                self.assert_raises_with(BadValue, 1, function, listed(pool), *rest)

    def test_pools_at_their_limits(self):
        for kept in ((0, 1), (10 ** 30 - 1, 10 ** 30), (1, 10 ** 30), (1, 2)):
            for step in ((1, 1), (1, 100), (99, 100), (1, 99)):
                for runners in (1, 2, 3, 4):
                    pool = (kept, step, runners)
                    self.assertEqual(payments(pool, (1,) * runners), told_row(pool, (1,) * runners))

    def test_wrong_stakes(self):
        wrong = ((), (1,), (1, 1, 1), (0, 0), (-1, 2), (MOST + 1, 1), (1, MOST + 1), (True, 1), (1, False), (None, 1),
                 ("1", 1), ((1,), 1), ((1, 1), (1, 1)), (10 ** 30, 1), (0, -1), (-1, -1))
        for stakes in wrong + NO_SEQUENCES + (nested(40), "11", tuple(range(300))):
            self.assert_raises_with(BadValue, 2, payments, POOL, stakes)
            self.assert_raises_with(BadValue, 2, pool_gain, POOL, stakes, (0, 0))
        for stakes in ANY_VALUES:
            if stakes not in ((1, 2), [1, 2]):
                self.assert_raises_with(BadValue, 2, payments, POOL, stakes)
                self.assert_raises_with(BadValue, 2, pool_gain, POOL, stakes, (0, 0))
        for runners in (1, 3, 4):
            self.assert_raises_with(BadValue, 2, payments, POOL[:2] + (runners,), (1, 2))

    def test_stakes_at_their_limits(self):
        self.assertEqual(payments(POOL, (MOST, MOST)), ((9, 5), (9, 5)))
        self.assertEqual(payments(WHOLE, (MOST, 0)), ((1, 1), None))
        self.assertEqual(payments(WHOLE, (1, MOST)), ((MOST + 1, 1), (1, 1)))
        self.assertEqual(payments(((0, 1), (1, 1), 4), (0, 0, 0, 1)), (None, None, None, (1, 1)))

    def test_wrong_rows(self):
        wrong = ((), ((1, 1),), ((1, 1),) * 3, (None, None), [None, None], (None, (1, 20)), ((1, 1), (11, 100)),
                 ((-1, 10), (1, 1)), ((1, 1), (-1, 1)), (0, 1), (1, 1), (None, 1), (None, 0), (False, (1, 1)),
                 ((1, 1), True), ((1, 1), ()), ("-", (1, 1)), (None, "1/1"), ((1, 10 ** 30), None),
                 (None, (10 ** 30 + 1, 10 ** 30)))
        for function in (comes, least_stakes, spread):
            for row in wrong + ANY_VALUES + NO_SEQUENCES + (nested(40),):
                self.assert_raises_with(BadValue, 2, function, POOL, row)
            for number in NO_FRACTIONS[1:]:
                self.assert_raises_with(BadValue, 2, function, POOL, (None, number))
                self.assert_raises_with(BadValue, 2, function, POOL, (number, (1, 1)))

    def test_multiples_of_the_step(self):
        # 3/2 is a multiple of 1/2, 3/4 and 1/10, but none of 1, 2/3 or 2/5.
        for step, right in (((1, 2), True), ((3, 4), True), ((1, 10), True), ((1, 1), False), ((2, 3), False),
                            ((2, 5), False), ((3, 100), True), ((7, 100), False)):
            for function in (comes, least_stakes, spread):
                pool = ((0, 1), step, 2)
                if right:
                    function(pool, ((3, 2), None))
                else:
                    self.assert_raises_with(BadValue, 2, function, pool, ((3, 2), None))
                function(pool, ((0, 1), None))

    def test_wrong_own_stakes(self):
        stakes = (3, 0)
        wrong = ((), (0,), (0, 0, 0), (4, 0), (0, 1), (3, 1), (-1, 0), (0, -1), (True, 0), (0, False), (None, 0),
                 ("0", 0), ((0,), 0), (10 ** 30, 0))
        for own in wrong + NO_SEQUENCES + ANY_VALUES + (nested(40),):
            self.assert_raises_with(BadValue, 3, pool_gain, POOL, stakes, own)
        self.assert_raises_with(BadValue, 3, pool_gain, POOL, (3, MOST), (3, MOST + 1))

    def test_errors_in_their_order(self):
        for function in (payments, comes, least_stakes, spread):
            self.assert_raises_with(BadValue, 1, function, None, None)
            self.assert_raises_with(BadValue, 1, function, POOL[:2] + (5,), ((1, 1),) * 5)
            self.assert_raises_with(BadValue, 2, function, POOL, None)
        self.assert_raises_with(BadValue, 1, pool_gain, None, None, None)
        self.assert_raises_with(BadValue, 1, pool_gain, None, (1, 2), None)
        self.assert_raises_with(BadValue, 2, pool_gain, POOL, (0, 0), (1, 0))
        self.assert_raises_with(BadValue, 2, pool_gain, POOL, None, None)
        self.assert_raises_with(BadValue, 3, pool_gain, POOL, (1, 2), None)

    def test_names_and_lists(self):
        pool, stakes, row, own = listed(POOL), [3, 4], [[21, 10], [3, 2]], [1, 0]
        kept = listed((pool, stakes, row, own))
        paid = payments(pool=pool, stakes=stakes)
        self.assertEqual(paid, ((21, 10), (3, 2)))
        self.assertIs(comes(pool=pool, row=row), True)
        self.assertEqual(least_stakes(pool=pool, row=row), (3, 4))
        self.assertEqual(spread(pool=pool, row=row), spread(POOL, ((21, 10), (3, 2))))
        gained = pool_gain(pool=pool, stakes=stakes, own=own)
        self.assertEqual(gained, ((11, 10), (-1, 1)))
        self.assertEqual([pool, stakes, row, own], kept)
        stakes[0] = own[0] = 9
        row.clear()
        pool[0][0] = 5
        self.assertEqual((paid, gained), (((21, 10), (3, 2)), ((11, 10), (-1, 1))))


class Payments(PoolCase):
    def test_as_told(self):
        self.assertEqual(payments(POOL, (1, 2)), ((27, 10), (13, 10)))
        self.assertEqual(payments(WHOLE, (1, 2)), ((3, 1), (1, 1)))
        self.assertEqual(payments(((1, 2), (1, 1), 3), (1, 1, 2)), ((2, 1), (2, 1), (1, 1)))
        self.assertEqual(payments(((0, 1), (1, 2), 4), (2, 3, 0, 4)), ((9, 2), (3, 1), None, (2, 1)))

    def test_one_runner(self):
        for stake in (1, 7, MOST):
            self.assertEqual(payments(((0, 1), (1, 1), 1), (stake,)), ((1, 1),))
            self.assertEqual(payments(((1, 10), (1, 4), 1), (stake,)), ((3, 4),))
            self.assertEqual(payments(((1, 10), (1, 1), 1), (stake,)), ((0, 1),))

    def test_nothing_staked(self):
        self.assertEqual(payments(WHOLE, (0, 5)), (None, (1, 1)))
        self.assertEqual(payments(WHOLE, (5, 0)), ((1, 1), None))
        self.assertEqual(payments(((0, 1), (1, 1), 4), (0, 3, 0, 2)), (None, (1, 1), None, (2, 1)))

    def test_exact_multiples_and_just_below(self):
        self.assertEqual(payments(((0, 1), (1, 1), 2), (100, 200)), ((3, 1), (1, 1)))
        self.assertEqual(payments(((0, 1), (1, 1), 2), (100, 199)), ((2, 1), (1, 1)))
        self.assertEqual(payments(((1, 10 ** 30), (1, 1), 2), (100, 200)), ((2, 1), (1, 1)))
        self.assertEqual(payments(((0, 1), (1, 1), 2), (1, MOST)), ((MOST + 1, 1), (1, 1)))

    def test_drawn(self):
        draw = random.Random(37)
        for number in range(400):
            pool = drawn_pool(draw)
            stakes = drawn_stakes(draw, pool[2], draw.choice((3, 100, MOST)))
            found = payments(pool, stakes)
            self.assert_plain(found)
            self.assertEqual(found, told_row(pool, stakes))
            for paid, stake in zip(found, stakes):
                if paid is None:
                    self.assertEqual(stake, 0)
                else:
                    # The greatest multiple of the step that can be paid.
                    exact = (1 - Fraction(*pool[0])) * sum(stakes) / stake
                    self.assertEqual((Fraction(*paid) / Fraction(*pool[1])).denominator, 1)
                    self.assertTrue(Fraction(*paid) <= exact < Fraction(*paid) + Fraction(*pool[1]))


class Rows(PoolCase):
    def test_as_told(self):
        self.assert_row(WHOLE, ((3, 1), (1, 1)), (1, 2))
        self.assert_row(WHOLE, ((2, 1), (2, 1)), (1, 1))
        self.assert_row(WHOLE, ((2, 1), (1, 1)), (2, 3))
        self.assert_row(POOL, ((27, 10), (13, 10)), (1, 2))
        self.assert_row(WHOLE, ((3, 1), (3, 1)), None)
        self.assert_row(WHOLE, ((1, 1), None), (1, 0))
        self.assert_row(WHOLE, (None, (1, 1)), (0, 1))
        self.assert_row(WHOLE, (None, (2, 1)), None)

    def test_highs_of_one_just_do(self):
        self.assertEqual(spread(WHOLE, ((2, 1), (2, 1))), ((2, 3), (1, 1)))
        self.assert_row(WHOLE, ((2, 1), (2, 1)), (1, 1))
        self.assertEqual(spread(((0, 1), (1, 1), 3), ((2, 1), (3, 1), (6, 1))), ((61, 84), (1, 1)))
        self.assert_row(((0, 1), (1, 1), 3), ((2, 1), (3, 1), (6, 1)), (3, 2, 1))
        # Just below 1 they do not.
        self.assertEqual(spread(((0, 1), (1, 1), 3), ((2, 1), (3, 1), (7, 1)))[1], (41, 42))
        self.assert_row(((0, 1), (1, 1), 3), ((2, 1), (3, 1), (7, 1)), None)
        self.assert_row(((1, 10 ** 30), (1, 1), 2), ((2, 1), (2, 1)), None)

    def test_lows_of_one_just_do_not(self):
        self.assertEqual(spread(WHOLE, ((1, 1), (1, 1))), ((1, 1), (2, 1)))
        self.assert_row(WHOLE, ((1, 1), (1, 1)), None)
        three = ((0, 1), (1, 1), 3)
        self.assertEqual(spread(three, ((1, 1), (2, 1), (5, 1)))[0], (1, 1))
        self.assert_row(three, ((1, 1), (2, 1), (5, 1)), None)
        self.assertEqual(spread(three, ((1, 1), (2, 1), (6, 1)))[0], (41, 42))
        self.assert_row(three, ((1, 1), (2, 1), (6, 1)), (21, 14, 6))
        self.assertEqual(least_of(three, ((1, 1), (2, 1), (6, 1))), (21, 14, 6))
        self.assertIs(comes(((1, 10 ** 30), (1, 1), 2), ((1, 1), (1, 1))), True)

    def test_zero_payments(self):
        half = ((1, 2), (1, 1), 2)
        self.assertEqual(spread(half, ((0, 1), (0, 1))), ((1, 1), (2, 1)))
        self.assert_row(half, ((0, 1), (0, 1)), None)
        self.assertEqual(spread(half, ((0, 1), None)), ((1, 2), (1, 1)))
        self.assert_row(half, ((0, 1), None), (1, 0))
        self.assert_row(half, ((0, 1), (1, 1)), (2, 1))
        self.assert_row(((2, 3), (1, 1), 2), ((0, 1), (0, 1)), (1, 1))
        self.assert_row(((9, 10), (1, 1), 4), ((0, 1),) * 4, (1, 1, 1, 1))
        # What keeps nothing pays at least 1.
        self.assert_row(WHOLE, ((0, 1), None), None)
        self.assert_row(WHOLE, ((0, 1), (5, 1)), None)

    def test_highs_are_one_at_most(self):
        pool = ((0, 1), (1, 2), 2)
        self.assertEqual(spread(pool, ((1, 2), None)), ((1, 1), (1, 1)))
        self.assertEqual(spread(pool, ((1, 2), (1, 2))), ((2, 1), (2, 1)))
        self.assertEqual(spread(pool, ((1, 1), (3, 2))), ((7, 6), (5, 3)))
        self.assertEqual(spread(((1, 4), (1, 2), 1), ((1, 2),)), ((3, 4), (1, 1)))
        self.assertEqual(spread(((1, 4), (1, 4), 1), ((3, 4),)), ((3, 4), (1, 1)))
        self.assertEqual(spread(((1, 4), (1, 4), 1), ((1, 1),)), ((3, 5), (3, 4)))
        self.assert_row(((1, 4), (1, 2), 1), ((1, 2),), (1,))
        self.assert_row(((1, 4), (1, 4), 1), ((1, 1),), None)

    def test_one_runner(self):
        for kept, step in POOLS:
            pool = (kept, step, 1)
            paid = payments(pool, (1,))
            self.assert_row(pool, paid, (1,))
            for steps in range(6):
                row = (pair(steps * Fraction(*step)),)
                self.assert_row(pool, row, (1,) if row == paid else None)

    def test_rows_of_all_small_stakes(self):
        for kept, step in POOLS:
            for runners, most in ((2, 40), (3, 16), (4, 10)):
                pool = (kept, step, runners)
                for row, stakes in least_by_row(pool, most).items():
                    self.assertIs(comes(pool, row), True)
                    self.assertEqual(least_stakes(pool, row), stakes)

    def test_rows_of_no_small_stakes(self):
        # Rows of which all payments are small: of the least stakes none has a great sum.
        found = {True: 0, False: 0}
        for kept, step in (((0, 1), (1, 1)), ((1, 4), (1, 1)), ((1, 2), (1, 2)), ((9, 10), (1, 3))):
            for runners, most, steps in ((2, 40, 7), (3, 24, 4)):
                pool = (kept, step, runners)
                by_row = least_by_row(pool, most)
                paid = [None] + [pair(number * Fraction(*step)) for number in range(steps)]
                for row in product(paid, repeat=runners):
                    if any(row):
                        self.assertIs(comes(pool, row), row in by_row)
                        self.assertEqual(least_stakes(pool, row), by_row.get(row))
                        found[row in by_row] += 1
        self.assertGreater(min(found.values()), 100)

    def test_drawn(self):
        draw = random.Random(38)
        refused = 0
        for number in range(300):
            pool = drawn_pool(draw)
            stakes = drawn_stakes(draw, pool[2], draw.choice((3, 100, MOST)))
            row = payments(pool, stakes)
            self.assertIs(comes(pool, row), True)
            self.assert_least(pool, row, sum(stakes))
            at = draw.randrange(pool[2])
            steps = draw.choice((1, -1, 2, 10))
            if row[at] is not None and Fraction(*row[at]) + steps * Fraction(*pool[1]) >= 0:
                moved = list(row)
                moved[at] = pair(Fraction(*row[at]) + steps * Fraction(*pool[1]))
                lows, highs = told_spread(pool, moved)
                self.assertIs(comes(pool, moved), lows < 1 <= highs)
                self.assert_least(pool, tuple(moved), None)
                refused += not lows < 1 <= highs
        self.assertGreater(refused, 50)

    def assert_least(self, pool, row, known):
        """That the least stakes give the row, if it comes, and have a sum that is at most a known one."""
        if not comes(pool, row):
            self.assertIsNone(least_stakes(pool, row))
            return
        try:
            stakes = least_stakes(pool, row)
        except TooMany as error:
            self.assertEqual(error.word, "stakes")
            self.assertTrue(known is None or known > 5000)
            return
        self.assert_plain(stakes)
        self.assertEqual(payments(pool, stakes), row)
        self.assertTrue(known is None or sum(stakes) <= known)
        self.assertLessEqual(sum(stakes), 5000)

    def test_least_of_two_runners(self):
        # The first of all stakes, tried one by one.
        draw = random.Random(39)
        for number in range(40):
            pool = drawn_pool(draw)[:2] + (2,)
            row = payments(pool, drawn_stakes(draw, 2, 90))
            tried = ((first, many - first) for many in range(1, 200) for first in range(many + 1))
            expected = next(stakes for stakes in tried if told_row(pool, stakes) == row)
            self.assertEqual(least_stakes(pool, row), expected)

    def test_of_the_least_sum_the_least_tuple(self):
        three = WHOLE[:2] + (3,)
        for row, all_least in ((((8, 1), (2, 1), (2, 1)), ((1, 3, 4), (1, 4, 3))),
                               (((2, 1), (8, 1), (2, 1)), ((3, 1, 4), (4, 1, 3))),
                               (((2, 1), (2, 1), (8, 1)), ((3, 4, 1), (4, 3, 1)))):
            for stakes in all_least:
                self.assertEqual(payments(three, stakes), row)
            self.assert_row(three, row, all_least[0])
        self.assert_row(WHOLE[:2] + (4,), ((2, 1), None, (12, 1), (2, 1)), (5, 0, 1, 6))
        for row in (((3, 1), (3, 1), (3, 1), (5, 1)), ((2, 1), None, (2, 1), (8, 1)), ((7, 1), (3, 1), (2, 1), (9, 1))):
            four = WHOLE[:2] + (4,)
            self.assertEqual(least_stakes(four, row), least_of(four, row))

    def test_too_many(self):
        # 1 of S on the one, the rest on the other, is the first that pays S and 1.
        for sum_told in (4999, 5000):
            self.assertEqual(least_stakes(WHOLE, ((sum_told, 1), (1, 1))), (1, sum_told - 1))
            self.assertEqual(least_stakes(WHOLE, ((1, 1), (sum_told, 1))), (sum_told - 1, 1))
        for sum_told in (5001, 5002, 10 ** 9, 10 ** 30):
            for row in (((sum_told, 1), (1, 1)), ((1, 1), (sum_told, 1))):
                self.assertIs(comes(WHOLE, row), True)
                self.assert_raises_with(TooMany, "stakes", least_stakes, WHOLE, row)
                self.assert_raises_with(TooMany, "stakes", least_stakes, listed(WHOLE), listed(row))
        # Of no stakes it is None, however large the payments are.
        self.assertIsNone(least_stakes(WHOLE, ((10 ** 30, 1), (2, 1))))
        self.assertIsNone(least_stakes(WHOLE, ((10 ** 30, 1), None)))

    def test_great_sums(self):
        pool = ((1, 1000), (1, 100), 2)
        row = payments(pool, (1250, 1251))
        self.assertEqual(least_stakes(pool, row), least_of(pool, row))
        three = WHOLE[:2] + (3,)
        self.assertEqual(least_stakes(three, ((5000, 1), (2500, 1), (1, 1))), (1, 2, 4997))
        # What pays 5000 and 4999 are not both 1: they are parts of far more.
        for row in (((5001, 1), (2500, 1), (1, 1)), ((4999, 1), (5000, 1), (1, 1))):
            self.assertIs(comes(three, row), True)
            self.assert_raises_with(TooMany, "stakes", least_stakes, three, row)

    def test_comes_of_stakes_above_a_thousand_million(self):
        row = ((10 ** 20, 1), (1, 1))
        self.assertIs(comes(WHOLE, row), True)
        self.assertEqual(spread(WHOLE, row), (pair(Fraction(1, 10 ** 20 + 1) + Fraction(1, 2)),
                                              pair(Fraction(1, 10 ** 20) + 1)))

    def test_spread(self):
        draw = random.Random(41)
        for number in range(200):
            pool = drawn_pool(draw)
            row = [pair(draw.choice((0, 1, draw.randint(0, 500))) * Fraction(*pool[1])) for _ in range(pool[2])]
            for at in range(1, pool[2]):
                row[at] = draw.choice((None, row[at], row[at]))
            found = spread(pool, row)
            self.assert_plain(found)
            lows, highs = told_spread(pool, row)
            self.assertEqual(found, (pair(lows), pair(highs)))
            self.assertIs(comes(pool, row), lows < 1 <= highs)
        self.assertEqual(spread(POOL, ((27, 10), None)), ((9, 28), (1, 3)))
        self.assertEqual(spread(POOL, ((27, 10), (13, 10))), ((27, 28), (40, 39)))


def least_of(pool, row):
    """The least stakes, found by trying, for each sum, those whose payments are near the row."""
    for many in range(1, 5001):
        ranges = [[0] if paid is None else near(pool, many, paid) for paid in row[:-1]]
        for first in product(*ranges):
            stakes = first + (many - sum(first),)
            if stakes[-1] >= 0 and told_row(pool, stakes) == row:
                return stakes
    return None


def near(pool, many, paid):
    """All stakes whose payment is the told one if so many are staked in all, and some more."""
    kept, step, number = Fraction(*pool[0]), Fraction(*pool[1]), Fraction(*paid)
    most = many if number == 0 else min(many, (1 - kept) * many // number + 1)
    return range(max(1, (1 - kept) * many // (number + step) - 1), most + 1)


class Gain(PoolCase):
    def test_as_told(self):
        self.assertEqual(pool_gain(POOL, (1, 2), (1, 0)), ((17, 10), (-1, 1)))
        self.assertEqual(pool_gain(POOL, (1, 2), (0, 2)), ((-2, 1), (3, 5)))
        self.assertEqual(pool_gain(POOL, (1, 2), (1, 1)), ((7, 10), (-7, 10)))

    def test_nothing_of_ones_own(self):
        self.assertEqual(pool_gain(POOL, (1, 2), (0, 0)), ((0, 1), (0, 1)))
        self.assertEqual(pool_gain(POOL, (0, 2), (0, 0)), ((0, 1), (0, 1)))

    def test_all_ones_own(self):
        # What all own stakes lose is what is kept, and what is rounded down.
        self.assertEqual(pool_gain(POOL, (1, 2), (1, 2)), ((-3, 10), (-2, 5)))
        self.assertEqual(pool_gain(WHOLE, (1, 1), (1, 1)), ((0, 1), (0, 1)))
        self.assertEqual(pool_gain(WHOLE, (MOST, MOST), (MOST, MOST)), ((0, 1), (0, 1)))
        self.assertEqual(pool_gain(((1, 10), (1, 1), 1), (7,), (7,)), ((-7, 1),))

    def test_nothing_staked_on_the_winner(self):
        self.assertEqual(pool_gain(POOL, (0, 2), (0, 1)), ((-1, 1), (-1, 10)))
        self.assertEqual(pool_gain(((0, 1), (1, 1), 3), (4, 0, 1), (1, 0, 1)), ((-1, 1), (-2, 1), (3, 1)))

    def test_drawn(self):
        draw = random.Random(42)
        for number in range(400):
            pool = drawn_pool(draw)
            stakes = drawn_stakes(draw, pool[2], draw.choice((3, 100, MOST)))
            own = tuple(draw.choice((0, stake, draw.randint(0, stake))) for stake in stakes)
            found = pool_gain(pool, stakes, own)
            self.assert_plain(found)
            expected = [stake * (paid or 0) - sum(own) for stake, paid in zip(own, told_payments(pool, stakes))]
            self.assertEqual(found, tuple(pair(Fraction(gained)) for gained in expected))
            weighed = sum(stake * Fraction(*gained) for stake, gained in zip(stakes, found, strict=True))
            self.assertLessEqual(weighed, -Fraction(*pool[0]) * sum(stakes) * sum(own))
            self.assertLessEqual(min(Fraction(*gained) for gained in found), 0)


if __name__ == "__main__":
    unittest.main()
