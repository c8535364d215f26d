"""[10], [12], [14], [19] to [21]"""

import unittest
from fractions import Fraction

from racebooks.errors import BadOffer, BadValue
from racebooks.offers import gain, gains, mean
from racebooks.races import Race, outcomes
from tests.helpers import (ANY_VALUES, NO_FRACTIONS, NO_RACES, NO_SEQUENCES, Case, all_bets, listed, nested, pair,
                           told_gain)

WIN = (("top", 1, (0,)), (3, 2), "for")
LOSE = (("top", 1, (0,)), (3, 2), "against")
EVEN = (("top", 1, (1,)), (1, 1), "for")
RACE = Race(3, True, (0, 2), (60, 5, 70))
BOOK = (WIN, (("row", (1, 2)), (7, 3), "against"), (("top", 2, (0, 2)), (1000, 999), "for"), EVEN)
WRONG_OFFERS = (
    ((("top", 1, (2,)), (3, 2), "for"), (("win", 1, (0,)), (3, 2), "for"), (("row", ()), (3, 2), "for"))
    + tuple((WIN[0], WIN[1], side) for side in ("For", "", "+", None, True, 1, ("for",), ["for"], "for "))
    + tuple((WIN[0], odds, "for") for odds in NO_FRACTIONS)
    + tuple((WIN[0], odds, "for") for odds in ((0, 1), (-1, 1), (1001, 1), (1, 1001), (1001, 1000), (10 ** 30, 1)))
    + ((), (WIN,), WIN[:2], WIN + (1,), (WIN[1], WIN[0], "for"), ["for", WIN[1], WIN[0]]))


class Gain(Case):
    def test_for(self):
        self.assertEqual(gain(Race(2), WIN, ((0,), (1,))), (3, 2))
        self.assertEqual(gain(Race(2), WIN, ((1,), (0,))), (-1, 1))
        self.assertEqual(gain(Race(2), WIN, ((0, 1),)), (1, 4))

    def test_against(self):
        self.assertEqual(gain(Race(2), LOSE, ((0,), (1,))), (-3, 2))
        self.assertEqual(gain(Race(2), LOSE, ((1,), (0,))), (1, 1))
        self.assertEqual(gain(Race(2), LOSE, ((0, 1),)), (-1, 4))

    def test_void(self):
        race = Race(2, True, (0,), (50, 50))
        self.assertEqual(gain(race, WIN, ((1,),)), (0, 1))
        self.assertEqual(gain(race, LOSE, ((1,),)), (0, 1))

    def test_cuts(self):
        race = Race(4, True, (1, 2, 3), (7, 20, 45, 60))
        self.assertEqual(gain(race, WIN, ((0,), (1,), (2,), (3,))), (3, 2))
        self.assertEqual(gain(race, WIN, ((0,), (2,), (3,))), (6, 5))
        self.assertEqual(gain(race, LOSE, ((0,), (2,), (3,))), (-6, 5))
        self.assertEqual(gain(race, WIN, ((0,), (3,))), (21, 40))
        # 20 + 45 + 60 and 45 + 60 are more than 90.
        self.assertEqual(gain(race, WIN, ((0,),)), (3, 20))
        self.assertEqual(gain(race, WIN, ((0,), (1,))), (3, 20))
        self.assertEqual(gain(race, WIN, ((1,), (0,))), (-1, 1))
        self.assertEqual(gain(race, WIN, ((0, 3),)), (-19, 80))

    def test_cuts_up_to_ninety(self):
        race = Race(3, True, (1, 2), (0, 40, 50))
        self.assertEqual(gain(race, WIN, ((0,),)), (3, 20))
        race = Race(3, True, (1, 2), (0, 40, 49))
        self.assertEqual(gain(race, WIN, ((0,),)), (33, 200))
        race = Race(3, True, (1, 2), (0, 40, 51))
        self.assertEqual(gain(race, WIN, ((0,),)), (3, 20))

    def test_every_gain(self):
        for race in (RACE, Race(2, False, (1,), (0, 90)), Race(4, True, (1,), (9, 8, 7, 6))):
            for outcome in outcomes(race):
                for bet in all_bets(race.runners):
                    for side in ("for", "against"):
                        offer = (bet, (7, 3), side)
                        self.assert_fraction(gain(race, offer, outcome), told_gain(race, offer, outcome))

    def test_odds_at_their_limits(self):
        for odds in ((1000, 1), (1, 1000), (1000, 999), (999, 1000)):
            self.assertEqual(gain(Race(2), (WIN[0], odds, "for"), ((0,), (1,))), odds)

    def test_wrong_offers(self):
        for offer in WRONG_OFFERS + ANY_VALUES + (nested(40),):
            self.assert_raises_with(BadValue, 2, gain, Race(2), offer, ((0,), (1,)))
            self.assert_raises_with(BadValue, 2, mean, Race(2), offer, ((1, 1), (0, 1), (0, 1)))

    def test_wrong_races(self):
        for race in NO_RACES:
            self.assert_raises_with(BadValue, 1, gain, race, WIN, ((0,),))
            self.assert_raises_with(BadValue, 1, gains, race, (WIN,), ((1, 1),))
            self.assert_raises_with(BadValue, 1, mean, race, WIN, ((1, 1),))

    def test_wrong_outcomes(self):
        for outcome in ANY_VALUES + (((0,),), ((1,),), ((0,), (1,), (2,)), ((False,), (True,))):
            self.assert_raises_with(BadValue, 3, gain, Race(2), WIN, outcome)

    def test_errors_in_their_order(self):
        self.assert_raises_with(BadValue, 1, gain, None, None, None)
        self.assert_raises_with(BadValue, 2, gain, Race(2), None, None)
        self.assert_raises_with(BadValue, 3, gain, Race(2), WIN, None)

    def test_lists_and_names(self):
        offer, outcome = listed(WIN), [[0, 1]]
        self.assertEqual(gain(race=Race(2), offer=offer, outcome=outcome), (1, 4))
        self.assertEqual((offer, outcome), (listed(WIN), [[0, 1]]))


class Gains(Case):
    def test_as_told(self):
        self.assertEqual(gains(Race(2), (WIN, EVEN), ((2, 1), (1, 3))), ((8, 3), (1, 2), (-5, 3)))
        self.assertEqual(gains(Race(2), (WIN,), ((0, 1),)), ((0, 1),) * 3)

    def test_sums(self):
        stakes = ((1, 2), (0, 1), (7, 5), (10 ** 30, 7))
        found = gains(RACE, BOOK, stakes)
        self.assert_plain(found)
        for outcome, number in zip(outcomes(RACE), found, strict=True):
            expected = sum(Fraction(*stake) * told_gain(RACE, offer, outcome) for stake, offer in zip(stakes, BOOK))
            self.assert_fraction(number, expected)

    def test_books_add_up(self):
        left, right = ((1, 2), (0, 1), (7, 5), (1, 1)), ((1, 3), (4, 1), (3, 5), (10 ** 20, 3))
        both = tuple(pair(Fraction(*one) + Fraction(*other)) for one, other in zip(left, right))
        for one, other, together in zip(gains(RACE, BOOK, left), gains(RACE, BOOK, right), gains(RACE, BOOK, both)):
            self.assertEqual(Fraction(*one) + Fraction(*other), Fraction(*together))

    def test_one_to_eight_offers(self):
        for many in range(1, 9):
            self.assertEqual(gains(Race(2), (WIN,) * many, ((1, 1),) * many)[0], pair(Fraction(3 * many, 2)))
        for many in (0, 9, 10):
            self.assert_raises_with(BadValue, 2, gains, Race(2), (WIN,) * many, ((1, 1),) * many)

    def test_wrong_offers(self):
        for offers in NO_SEQUENCES + ((), [], 10 ** 30, (None,) * 9, tuple(range(300))):
            self.assert_raises_with(BadValue, 2, gains, Race(2), offers, ((1, 1),))
        for offer in WRONG_OFFERS + ANY_VALUES + (nested(40),):
            for at in (0, 3, 7):
                offers = [WIN] * 8
                offers[at] = offer
                self.assert_raises_with(BadOffer, at, gains, Race(2), offers, ((1, 1),) * 8)

    def test_first_wrong_offer_is_told(self):
        self.assert_raises_with(BadOffer, 1, gains, Race(2), (WIN, None, WIN, None), ((1, 1),) * 4)
        self.assert_raises_with(BadOffer, 0, gains, Race(2), (None, None), ((1, 1),) * 2)

    def test_an_offer_is_no_sequence_of_offers(self):
        self.assert_raises_with(BadOffer, 0, gains, Race(2), WIN, ((1, 1),))

    def test_wrong_stakes(self):
        wrong = ((), ((1, 1),), ((1, 1),) * 3, ((1, 1), (-1, 1)), ((-1, 10 ** 30), (1, 1)), (1, 1), ("1", "1"))
        for stakes in wrong + NO_SEQUENCES + ANY_VALUES + (nested(40),):
            self.assert_raises_with(BadValue, 3, gains, Race(2), (WIN, EVEN), stakes)
        for number in NO_FRACTIONS:
            self.assert_raises_with(BadValue, 3, gains, Race(2), (WIN, EVEN), ((1, 1), number))
            self.assert_raises_with(BadValue, 3, gains, Race(2), (WIN, EVEN), (number, (1, 1)))

    def test_errors_in_their_order(self):
        self.assert_raises_with(BadValue, 1, gains, None, None, None)
        self.assert_raises_with(BadValue, 1, gains, None, (None,), None)
        self.assert_raises_with(BadValue, 2, gains, Race(2), None, None)
        self.assert_raises_with(BadOffer, 1, gains, Race(2), (WIN, None), None)
        self.assert_raises_with(BadValue, 3, gains, Race(2), (WIN,), None)

    def test_lists_and_names(self):
        offers, stakes = listed(BOOK), [[1, 2], [0, 1], [7, 5], [1, 1]]
        found = gains(race=RACE, offers=offers, stakes=stakes)
        self.assertEqual(found, gains(RACE, BOOK, ((1, 2), (0, 1), (7, 5), (1, 1))))
        self.assertEqual((offers, stakes), (listed(BOOK), [[1, 2], [0, 1], [7, 5], [1, 1]]))
        kept = tuple(found)
        stakes[0][0] = 5
        offers.clear()
        self.assertEqual(found, kept)


class Mean(Case):
    def test_as_told(self):
        self.assertEqual(mean(Race(2), WIN, ((1, 2), (0, 1), (1, 2))), (1, 4))
        self.assertEqual(mean(Race(2), LOSE, ((1, 2), (0, 1), (1, 2))), (-1, 4))
        self.assertEqual(mean(Race(2), WIN, ((2, 5), (0, 1), (3, 5))), (0, 1))
        self.assertEqual(mean(Race(2), WIN, ((1, 3), (1, 3), (1, 3))), (1, 4))
        self.assertEqual(mean(Race(1), WIN, ((1, 1),)), (3, 2))

    def test_sums(self):
        many = len(outcomes(RACE))
        chances = tuple(pair(Fraction(2 * k, many * (many - 1))) for k in range(many))
        for offer in BOOK:
            expected = sum(Fraction(*chance) * told_gain(RACE, offer, outcome)
                           for chance, outcome in zip(chances, outcomes(RACE), strict=True))
            self.assert_fraction(mean(RACE, offer, chances), expected)

    def test_mean_of_a_book_is_the_sum_of_the_means(self):
        many = len(outcomes(RACE))
        chances = tuple(pair(Fraction(2 * k, many * (many - 1))) for k in range(many))
        stakes = ((1, 2), (0, 1), (7, 5), (1, 3))
        book = sum(Fraction(*chance) * Fraction(*number)
                   for chance, number in zip(chances, gains(RACE, BOOK, stakes), strict=True))
        parts = sum(Fraction(*stake) * Fraction(*mean(RACE, offer, chances)) for stake, offer in zip(stakes, BOOK))
        self.assertEqual(book, parts)

    def test_wrong_chances(self):
        wrong = (((1, 1),), ((1, 2), (1, 2)), ((1, 4),) * 4, ((1, 2), (1, 2), (1, 2)), ((1, 3), (1, 3), (1, 4)),
                 ((0, 1),) * 3, ((1, 1), (1, 1), (-1, 1)), ((3, 2), (-1, 2), (0, 1)), ((1, 1), (0, 1), (0, 2)),
                 ((2, 4), (1, 2), (0, 1)), ((1, 1), 0, 0), (1, 0, 0), "100", ((1, 1), (0, 1), None),
                 ((True, 1), (0, 1), (0, 1)), ((1, True), (0, 1), (0, 1)), ((1, 1), (False, 1), (0, 1)),
                 ((10 ** 30 - 1, 10 ** 30), (0, 1), (0, 1)))
        for chances in wrong + ANY_VALUES + (nested(40),):
            self.assert_raises_with(BadValue, 3, mean, Race(2), WIN, chances)
        for number in NO_FRACTIONS:
            self.assert_raises_with(BadValue, 3, mean, Race(2), WIN, ((1, 1), (0, 1), number))

    def test_chances_that_barely_come_to_one(self):
        many = 10 ** 30
        found = mean(Race(2), WIN, ((many - 1, many), (0, 1), (1, many)))
        self.assert_fraction(found, Fraction(3, 2) - Fraction(5, 2 * many))

    def test_errors_in_their_order(self):
        self.assert_raises_with(BadValue, 1, mean, None, None, None)
        self.assert_raises_with(BadValue, 2, mean, Race(2), None, None)
        self.assert_raises_with(BadValue, 3, mean, Race(2), WIN, None)

    def test_lists_and_names(self):
        offer, chances = listed(WIN), [[1, 2], [0, 1], [1, 2]]
        self.assertEqual(mean(race=Race(2), offer=offer, chances=chances), (1, 4))
        self.assertEqual((offer, chances), (listed(WIN), [[1, 2], [0, 1], [1, 2]]))


if __name__ == "__main__":
    unittest.main()
