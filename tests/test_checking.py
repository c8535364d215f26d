"""[2], [12], [14], [22], [23], [27]"""

import random
import unittest
from fractions import Fraction

from racebooks.checking import chances_hold, gain_holds, surest_holds
from racebooks.errors import BadOffer, BadValue
from racebooks.offers import gains, mean
from racebooks.races import Race, outcomes
from tests.helpers import ANY_VALUES, NO_FRACTIONS, NO_RACES, NO_SEQUENCES, Case, listed, nested, pair
from tests.reckoning import (bent, drawn_chances, drawn_offers, drawn_race, told_chances_hold, told_gain_holds,
                             told_surest_holds)

RACE = Race(2)
# The outcomes are: 0 ahead, level, 1 ahead.
WIN = (("top", 1, (0,)), (3, 2), "for")
EVEN = (("top", 1, (1,)), (1, 1), "for")
LAY = (("top", 1, (0,)), (3, 2), "against")
BOOK = (WIN, EVEN)
SURE = ((4, 1), (5, 1))
BAR = ((2, 5), (0, 1), (3, 5))
SUREST = ((-1, 1), ((1, 1),), ((0, 1), (0, 1), (1, 1)))
LARGE = ANY_VALUES + (nested(40), "a" * 60000, ("b",) * 20000, ((1, 1),) * 5000, ((10 ** 30, 1), (-10 ** 30, 1)))
CHECKS = ((gain_holds, "stakes", SURE), (chances_hold, "chances", BAR), (surest_holds, "value", SUREST))


class Arguments(Case):
    def test_wrong_races(self):
        for check, _, value in CHECKS:
            for race in NO_RACES:
                self.assert_raises_with(BadValue, 1, check, race, BOOK, value)

    def test_wrong_offers(self):
        for check, _, value in CHECKS:
            for offers in NO_SEQUENCES + ((), [], (WIN,) * 9, (None,) * 9, ((0,),) * 300):
                self.assert_raises_with(BadValue, 2, check, RACE, offers, value)
            for offer in ANY_VALUES + (("top", 1, (0,)), (WIN[0], (3, 2)), (WIN[0], (6, 4), "for"),
                                       (WIN[0], (1001, 1), "for"), (WIN[0], (0, 1), "for"), (("row", (2,)),) + WIN[1:]):
                for at in (0, 3, 7):
                    offers = [WIN] * 8
                    offers[at] = offer
                    self.assert_raises_with(BadOffer, at, check, RACE, offers, value)

    def test_errors_in_their_order(self):
        for check, _, value in CHECKS:
            self.assert_raises_with(BadValue, 1, check, None, None, None)
            self.assert_raises_with(BadValue, 1, check, None, (None,), value)
            self.assert_raises_with(BadValue, 2, check, RACE, None, None)
            self.assert_raises_with(BadValue, 2, check, RACE, (None,) * 9, None)
            self.assert_raises_with(BadOffer, 1, check, RACE, (WIN, None, None), None)

    def test_any_value(self):
        for check, _, _ in CHECKS:
            for value in LARGE:
                self.assertIs(check(RACE, BOOK, value), False)
                self.assertIs(check(RACE, (WIN,), value), False)
                self.assertIs(check(Race(1), (WIN,), value), False)

    def test_names(self):
        for check, name, value in CHECKS:
            offers = (WIN,) if check == surest_holds else BOOK if check == gain_holds else (WIN, LAY)
            self.assertIs(check(race=RACE, offers=offers, **{name: value}), True)

    def test_lists_are_not_changed(self):
        for check, _, value in CHECKS:
            offers = (WIN,) if check == surest_holds else BOOK if check == gain_holds else (WIN, LAY)
            given, told = listed(offers), listed(value)
            self.assertIs(check(RACE, given, told), True)
            self.assertEqual((given, told), (listed(offers), listed(value)))


class GainHolds(Case):
    def test_true(self):
        self.assertEqual(gains(RACE, BOOK, SURE), ((1, 1),) * 3)
        self.assertIs(gain_holds(RACE, BOOK, SURE), True)
        self.assertIs(gain_holds(RACE, BOOK, ((40, 1), (50, 1))), True)
        self.assertIs(gain_holds(RACE, BOOK, ((10 ** 30, 1), (10 ** 30, 1))), False)
        self.assertIs(gain_holds(RACE, BOOK, ((8 * 10 ** 29, 1), (10 ** 30, 1))), True)

    def test_just_below(self):
        small = Fraction(1, 10 ** 29)
        first, second = Fraction(4), Fraction(5)
        for stakes in ((first - small, second), (first, second - small), (first + small, second),
                       (first, second + small), (first - small, second - small)):
            self.assertIs(gain_holds(RACE, BOOK, tuple(pair(stake) for stake in stakes)), False)
        self.assertIs(gain_holds(RACE, BOOK, (pair(4 * (1 + small)), pair(5 * (1 + small)))), True)

    def test_one_outcome_is_enough_to_fail(self):
        self.assertIs(gain_holds(RACE, (WIN,), ((1000, 1),)), False)
        self.assertIs(gain_holds(RACE, (LAY,), ((1000, 1),)), False)
        self.assertIs(gain_holds(RACE, (WIN, LAY), ((1000, 1), (1000, 1))), False)
        self.assertIs(gain_holds(Race(1), (WIN,), ((2, 3),)), True)
        self.assertIs(gain_holds(Race(1), (WIN,), ((1, 2),)), False)
        self.assertIs(gain_holds(RACE, BOOK, ((0, 1), (0, 1))), False)

    def test_void_outcomes_gain_nothing(self):
        self.assertIs(gain_holds(Race(1, True, (0,)), (WIN,), ((2, 3),)), True)
        self.assertIs(gain_holds(Race(2, True, (0,)), (WIN, (("top", 2, (0,)), (1, 1), "for")), ((1, 1), (99, 1))),
                      False)

    def test_wrong_stakes(self):
        wrong = ((), SURE[:1], SURE + ((0, 1),), ((-1, 1), (5, 1)), ((4, 1), (-5, 1)), ((8, 2), (5, 1)),
                 ((4, 1), (10, 2)), ((4, -1), (5, 1)), ((-4, -1), (5, 1)), (4, 5), ("4", "5"), (SURE,), [SURE],
                 ((4, 1), None), "ab", 12)
        for stakes in wrong + NO_SEQUENCES:
            self.assertIs(gain_holds(RACE, BOOK, stakes), False)
        for number in NO_FRACTIONS:
            self.assertIs(gain_holds(RACE, BOOK, ((4, 1), number)), False)
            self.assertIs(gain_holds(RACE, BOOK, (number, (5, 1))), False)
        self.assertIs(gain_holds(RACE, (WIN, EVEN, WIN), ((4, 1), (5, 1), (0, 1))), True)
        self.assertIs(gain_holds(RACE, (WIN, EVEN, WIN), ((4, 1), (5, 1), (-1, 10 ** 30))), False)

    def test_lists(self):
        for stakes in ([[4, 1], [5, 1]], [(4, 1), (5, 1)], ([4, 1], [5, 1]), ((4, 1), [5, 1])):
            self.assertIs(gain_holds(RACE, listed(BOOK), stakes), True)
        self.assertIs(gain_holds(RACE, BOOK, [[4, 1], [10, 2]]), False)

    def test_one_to_eight_offers(self):
        race = Race(1)
        for many in range(1, 9):
            self.assertIs(gain_holds(race, (WIN,) * many, ((2, 3 * many) if many % 2 else (1, 3 * many // 2),) * many),
                          True)
            self.assertIs(gain_holds(race, (WIN,) * many, ((1, 2 * many),) * many), False)

    def test_drawn(self):
        draw = random.Random(22)
        seen = set()
        for _ in range(300):
            race = drawn_race(draw, Race, 3)
            offers = drawn_offers(draw, race, draw.randint(1, 8))
            stakes = tuple(pair(Fraction(draw.randint(0, 20), draw.randint(1, 3))) for _ in offers)
            held = gain_holds(race, offers, stakes)
            self.assertIs(held, told_gain_holds(race, offers, stakes))
            self.assertEqual(held, all(Fraction(*gain) >= 1 for gain in gains(race, offers, stakes)))
            seen.add(held)
        self.assertEqual(seen, {True, False})


class ChancesHold(Case):
    def test_true(self):
        self.assertEqual(mean(RACE, WIN, BAR), (0, 1))
        self.assertIs(chances_hold(RACE, (WIN,), BAR), True)
        self.assertIs(chances_hold(RACE, (LAY,), BAR), True)
        self.assertIs(chances_hold(RACE, (WIN, LAY), BAR), True)
        self.assertIs(chances_hold(RACE, (WIN,), ((0, 1), (0, 1), (1, 1))), True)
        self.assertIs(chances_hold(RACE, (WIN,), ((0, 1), (1, 1), (0, 1))), False)

    def test_just_above(self):
        small = Fraction(1, 10 ** 29)
        low = (pair(Fraction(2, 5) - small), (0, 1), pair(Fraction(3, 5) + small))
        high = (pair(Fraction(2, 5) + small), (0, 1), pair(Fraction(3, 5) - small))
        self.assertIs(chances_hold(RACE, (WIN,), low), True)
        self.assertIs(chances_hold(RACE, (WIN,), high), False)
        self.assertIs(chances_hold(RACE, (LAY,), low), False)
        self.assertIs(chances_hold(RACE, (LAY,), high), True)
        for chances in (low, high):
            self.assertIs(chances_hold(RACE, (WIN, LAY), chances), False)
            self.assertIs(chances_hold(RACE, (LAY, WIN), chances), False)

    def test_one_offer_is_enough_to_fail(self):
        for at in range(8):
            offers = [WIN] * 8
            offers[at] = EVEN
            self.assertIs(chances_hold(RACE, offers, BAR), False)
        self.assertIs(chances_hold(RACE, [WIN] * 8, BAR), True)
        self.assertIs(chances_hold(RACE, (EVEN,), ((1, 2), (0, 1), (1, 2))), True)

    def test_wrong_chances(self):
        wrong = ((), BAR[:2], BAR + ((0, 1),), ((2, 5), (0, 1), (1, 2)), ((0, 1), (0, 1), (0, 1)),
                 ((0, 1), (0, 1), (10 ** 30 - 1, 10 ** 30)), ((0, 1), (0, 1), (10 ** 30, 10 ** 30 - 1)),
                 ((-1, 5), (0, 1), (6, 5)), ((0, 1), (-1, 1), (2, 1)), ((0, 1), (0, 2), (1, 1)),
                 ((0, 1), (0, 1), (2, 2)), ((4, 10), (0, 1), (3, 5)), (0, 0, 1), ("0", "0", "1"), (BAR,),
                 ((0, 1), (0, -1), (1, 1)), ((0, 1), None, (1, 1)), "001")
        for chances in wrong + NO_SEQUENCES:
            self.assertIs(chances_hold(RACE, (WIN,), chances), False)
        for number in NO_FRACTIONS:
            self.assertIs(chances_hold(RACE, (WIN,), (number, (0, 1), (1, 1))), False)
            self.assertIs(chances_hold(RACE, (WIN,), ((0, 1), (0, 1), number)), False)

    def test_lists(self):
        for chances in ([[2, 5], [0, 1], [3, 5]], [(2, 5), (0, 1), (3, 5)], ([2, 5], [0, 1], (3, 5))):
            self.assertIs(chances_hold(RACE, listed((WIN, LAY)), chances), True)
        self.assertIs(chances_hold(RACE, (WIN,), [[2, 5], [0, 2], [3, 5]]), False)

    def test_many_long_fractions(self):
        race = Race(3, True)
        last, parts = Fraction(1), []
        for at in range(len(outcomes(race)) - 1):
            parts.append(Fraction(1, 10 ** 30 - at))
            last -= parts[-1]
        chances = tuple(pair(part) for part in parts + [last])
        self.assertIs(chances_hold(race, ((("top", 1, (0,)), (1, 1), "for"),), chances), True)
        self.assertIs(chances_hold(race, ((("top", 1, (2,)), (1, 1), "for"),), chances), False)

    def test_drawn(self):
        draw = random.Random(23)
        seen = set()
        for _ in range(300):
            race = drawn_race(draw, Race, 3)
            offers = drawn_offers(draw, race, draw.randint(1, 4))
            chances = tuple(pair(chance) for chance in drawn_chances(draw, len(outcomes(race))))
            held = chances_hold(race, offers, chances)
            self.assertIs(held, told_chances_hold(race, offers, chances))
            self.assertEqual(held, all(mean(race, offer, chances)[0] <= 0 for offer in offers))
            seen.add(held)
        self.assertEqual(seen, {True, False})


class SurestHolds(Case):
    def test_example(self):
        self.assertIs(surest_holds(RACE, (WIN,), SUREST), True)

    def test_best_of_two(self):
        # 4/9 and 5/9 gain 1/9 in each outcome; these chances give both offers 1/9.
        value = ((1, 9), ((4, 9), (5, 9)), ((4, 9), (0, 1), (5, 9)))
        self.assertIs(surest_holds(RACE, BOOK, value), True)
        self.assertIs(surest_holds(RACE, BOOK, ((1, 9), ((4, 9), (5, 9)), ((5, 9), (0, 1), (4, 9)))), False)
        self.assertIs(surest_holds(RACE, BOOK, ((1, 9), ((5, 9), (4, 9)), ((4, 9), (0, 1), (5, 9)))), False)
        self.assertIs(surest_holds(RACE, BOOK, ((1, 10), ((4, 9), (5, 9)), ((4, 9), (0, 1), (5, 9)))), False)
        self.assertIs(surest_holds(RACE, BOOK, ((1, 8), ((4, 9), (5, 9)), ((4, 9), (0, 1), (5, 9)))), False)
        self.assertIs(surest_holds(RACE, BOOK, ((2, 9), ((8, 9), (10, 9)), ((4, 9), (0, 1), (5, 9)))), False)
        self.assertIs(surest_holds(RACE, BOOK, ((2, 18), ((4, 9), (5, 9)), ((4, 9), (0, 1), (5, 9)))), False)

    def test_stakes_come_to_one(self):
        self.assertIs(surest_holds(RACE, (WIN,), ((-1, 2), ((1, 2),), SUREST[2])), False)
        self.assertIs(surest_holds(RACE, (WIN,), ((0, 1), ((0, 1),), BAR)), False)
        self.assertIs(surest_holds(RACE, (WIN,), ((-1, 1), ((1, 2),), SUREST[2])), False)
        self.assertIs(surest_holds(Race(1), (WIN,), ((3, 2), ((1, 1),), ((1, 1),))), True)
        self.assertIs(surest_holds(Race(1), (WIN,), ((3, 2), ((2, 1),), ((1, 1),))), False)

    def test_lower_and_higher_values(self):
        small = Fraction(1, 10 ** 29)
        for value in (-1 - small, -1 + small):
            self.assertIs(surest_holds(RACE, (WIN,), (pair(value),) + SUREST[1:]), False)

    def test_wrong_forms(self):
        value, stakes, chances = SUREST
        wrong = ((), SUREST[:2], SUREST + (1,), (SUREST,), (stakes, value, chances), (value, chances, stakes),
                 (value, stakes), (value, stakes, chances[:2]), (value, (), chances), (value, stakes * 2, chances),
                 (-1, stakes, chances), ("-1", stakes, chances), (None, stakes, chances), ((-2, 2), stakes, chances),
                 (value, (1,), chances), (value, ((2, 2),), chances), (value, stakes, ((0, 2), (0, 1), (1, 1))),
                 (value, stakes, ((0, 1), (0, 1), (1, 2))), ((1, -1), stakes, chances), ((-1, True), stakes, chances),
                 (value, None, chances), (value, stakes, None), "abc", ("stakes", stakes))
        for told in wrong + NO_SEQUENCES:
            self.assertIs(surest_holds(RACE, (WIN,), told), False)
            self.assertIs(surest_holds(RACE, (WIN,), listed(told)), False)
        for at in range(3):
            for part in LARGE:
                told = SUREST[:at] + (part,) + SUREST[at + 1:]
                self.assertIs(surest_holds(RACE, (WIN,), told), False)

    def test_lists(self):
        self.assertIs(surest_holds(RACE, listed((WIN,)), listed(SUREST)), True)
        self.assertIs(surest_holds(RACE, (WIN,), list(SUREST)), True)

    def test_bent(self):
        draw = random.Random(27)
        for race, offers, value in (
                (RACE, (WIN,), SUREST), (RACE, BOOK, ((1, 9), ((4, 9), (5, 9)), ((4, 9), (0, 1), (5, 9)))),
                (RACE, (WIN, LAY), ((0, 1), ((1, 2), (1, 2)), BAR))):
            self.assertIs(surest_holds(race, offers, value), True)
            for _ in range(300):
                told = bent(draw, value)
                self.assertIs(surest_holds(race, offers, told), told_surest_holds(race, offers, told))


if __name__ == "__main__":
    unittest.main()
