"""[1], [3], [12], [14], [19], [24] to [27]"""

import random
import unittest
from fractions import Fraction

from racebooks.books import sure, surest
from racebooks.checking import chances_hold, gain_holds, surest_holds
from racebooks.errors import BadOffer, BadValue
from racebooks.races import Race, outcomes
from tests.helpers import ANY_VALUES, NO_RACES, NO_SEQUENCES, Case, all_bets, all_races, listed, nested, pair
from tests.reckoning import (bent, drawn_offers, drawn_race, fair_offers, gain_of, number_of, part_at, places_of,
                             rows_of, told_chances_hold, told_gain_holds, told_surest_holds)


RACE = Race(2)
WIN = (("top", 1, (0,)), (3, 2), "for")
EVEN = (("top", 1, (1,)), (1, 1), "for")
WHOLE = Race(4, True, (0, 1, 2, 3), (10, 20, 90, 0))


def opposite(offer):
    return offer[:2] + ("against" if offer[2] == "for" else "for",)


class BookCase(Case):
    def assert_settled(self, race, offers):
        """Checks what sure and surest return, by the package and by the second reckoning; returns sure's word."""
        value = surest(race, offers)
        found = sure(race, offers)
        self.assert_plain(value)
        self.assertIs(type(found), tuple)
        word, shown = found
        self.assert_plain(shown)
        self.assertIs(surest_holds(race, offers, value), True)
        self.assertTrue(told_surest_holds(race, offers, value))
        self.assertEqual(word, "stakes" if value[0][0] > 0 else "chances")
        self.assertIs(gain_holds(race, offers, shown), word == "stakes")
        self.assertIs(chances_hold(race, offers, shown), word == "chances")
        self.assertEqual(told_gain_holds(race, offers, shown), word == "stakes")
        self.assertEqual(told_chances_hold(race, offers, shown), word == "chances")
        return word


class Arguments(Case):
    def test_wrong_races(self):
        for function in (sure, surest):
            for race in NO_RACES:
                self.assert_raises_with(BadValue, 1, function, race, (WIN,))

    def test_wrong_offers(self):
        for function in (sure, surest):
            for offers in NO_SEQUENCES + ((), [], (WIN,) * 9, [WIN] * 10, (None,) * 9, tuple(range(300))):
                self.assert_raises_with(BadValue, 2, function, RACE, offers)
            for offer in ANY_VALUES + (nested(39), WIN[:2], (("row", (2,)),) + WIN[1:], (WIN[0], (6, 4), "for"),
                                       (WIN[0], (0, 1), "for"), (WIN[0], (1, 1001), "for"), (WIN[0], (1, 1), "FOR")):
                for at in (0, 4, 7):
                    offers = [WIN] * 8
                    offers[at] = offer
                    self.assert_raises_with(BadOffer, at, function, RACE, offers)

    def test_errors_in_their_order(self):
        for function in (sure, surest):
            self.assert_raises_with(BadValue, 1, function, None, None)
            self.assert_raises_with(BadValue, 1, function, None, (None,))
            self.assert_raises_with(BadValue, 2, function, RACE, (None,) * 9)
            self.assert_raises_with(BadOffer, 1, function, RACE, (WIN, None, None))

    def test_lists_and_names(self):
        draw = random.Random(12)
        for function in (sure, surest):
            for _ in range(10):
                race = drawn_race(draw, Race)
                offers = drawn_offers(draw, race, 4)
                given = listed(offers)
                found = function(race=race, offers=given)
                self.assertEqual(given, listed(offers))
                kept = listed(found)
                given.clear()
                self.assertEqual(listed(found), kept)
                for way in places_of(found):
                    self.assertIn(type(part_at(found, way)), (tuple, int, str))


class Sure(BookCase):
    def test_example(self):
        self.assertEqual(sure(RACE, (WIN, EVEN))[0], "stakes")
        self.assertEqual(sure(RACE, (WIN,))[0], "chances")

    def test_one_offer(self):
        for race in all_races(3):
            for bet in all_bets(race.runners):
                for side in ("for", "against"):
                    offers = ((bet, (5, 3), side),)
                    gains = [row[0] for row in rows_of(race, offers)]
                    word = self.assert_settled(race, offers)
                    self.assertEqual(word, "stakes" if min(gains) > 0 else "chances")
                    self.assertEqual(number_of(surest(race, offers)[0]), min(gains))

    def test_two_winners(self):
        # Without ties the odds a and b of both winners leave a sure gain exactly if a times b is above 1.
        race = Race(2, False)
        for left in ((1, 1000), (2, 3), (1, 1), (3, 2), (1000, 1), (999, 1000), (1000, 999)):
            for right in ((1000, 1), (3, 2), (1, 1), (2, 3), (1000, 999), (999, 1000), (1, 1000)):
                offers = ((("top", 1, (0,)), left, "for"), (("row", (1,)), right, "for"))
                a, b = Fraction(*left), Fraction(*right)
                self.assertEqual(self.assert_settled(race, offers), "stakes" if a * b > 1 else "chances")
                self.assertEqual(surest(race, offers)[0], pair((a * b - 1) / (a + b + 2)))
                against = tuple(opposite(offer) for offer in offers)
                self.assertEqual(self.assert_settled(race, against), "stakes" if a * b < 1 else "chances")

    def test_both_sides_of_a_bet(self):
        race = Race(3)
        # Among the first three of three a runner always is.
        bets = [bet for bet in all_bets(3) if bet[:2] != ("top", 3)]
        for bet in bets:
            for odds in ((1, 1), (1000, 1), (1, 1000)):
                offers = ((bet, odds, "for"), (bet, odds, "against"))
                self.assertEqual(self.assert_settled(race, offers), "chances")
                self.assertEqual(surest(race, offers)[0], (0, 1))
            offers = ((bet, (1000, 999), "for"), (bet, (999, 1000), "against"))
            self.assertEqual(self.assert_settled(race, offers), "stakes")
            self.assertEqual(self.assert_settled(race, tuple(opposite(offer) for offer in offers)), "chances")

    def test_same_offers_and_opposites(self):
        for many in range(1, 9):
            self.assertEqual(self.assert_settled(WHOLE, (WIN,) * many), "chances")
            offers = ((WIN, EVEN) * 4)[:many]
            self.assertEqual(self.assert_settled(RACE, offers), "stakes" if many > 1 else "chances")
            offers = tuple(WIN if at % 2 else opposite(WIN) for at in range(many))
            self.assertEqual(self.assert_settled(WHOLE, offers), "chances")

    def test_all_void(self):
        race = Race(2, True, (0,), (50, 0))
        for odds in ((1, 1), (1000, 1), (1, 1000)):
            offers = ((("top", 2, (0,)), odds, "for"), (("top", 1, (0,)), odds, "against"),
                      (("row", (0, 1)), odds, "for"))
            self.assertEqual(self.assert_settled(race, offers), "chances")
            self.assertEqual(self.assert_settled(race, offers[:1]), "chances")
            self.assertEqual(surest(race, offers[:1])[0], (0, 1))
            self.assertEqual(surest(race, offers[:1])[2][outcomes(race).index(((1,),))], (1, 1))

    def test_cuts_take_the_gain(self):
        # Alone, or with 1 behind, 0 is among the first two; 90 are cut if 1 is withdrawn.
        for cut in (0, 50, 90):
            race = Race(2, True, (1,), (0, cut))
            offers = ((("top", 2, (0,)), (1, 1), "for"),)
            self.assertEqual(self.assert_settled(race, offers), "stakes")
            self.assertEqual(surest(race, offers)[0], pair(Fraction(100 - cut, 100)))
        offers = ((("top", 1, (0,)), (3, 1), "for"), (("top", 1, (1,)), (1, 2), "for"))
        self.assertEqual(self.assert_settled(Race(2, True, (), (0, 90)), offers), "stakes")
        self.assertEqual(self.assert_settled(Race(2, True, (1,), (0, 90)), offers), "stakes")
        self.assertEqual(self.assert_settled(Race(2, True, (0,), (90, 0)), offers), "stakes")
        offers = ((("top", 1, (0,)), (3, 1), "for"), (("top", 2, (0, 1)), (1, 2), "against"))
        self.assertEqual(self.assert_settled(Race(2, True, (1,), (0, 90)), offers), "chances")

    def test_a_whole_market(self):
        # All six sequences, at the odds that bar a sure gain, and at better ones.
        race = Race(3, False)
        rows = [bet for bet in all_bets(3) if bet[0] == "row" and len(bet[1]) == 3]
        self.assertEqual(self.assert_settled(race, tuple((bet, (5, 1), "for") for bet in rows)), "chances")
        self.assertEqual(self.assert_settled(race, tuple((bet, (5, 1), "against") for bet in rows)), "chances")
        self.assertEqual(self.assert_settled(race, tuple((bet, (501, 100), "for") for bet in rows)), "stakes")
        self.assertEqual(self.assert_settled(race, tuple((bet, (499, 100), "against") for bet in rows)), "stakes")
        uneven = [(rows[0], (499, 100), "for")] + [(bet, (501, 100), "for") for bet in rows[1:]]
        self.assertEqual(self.assert_settled(race, uneven), "stakes")

    def test_drawn(self):
        draw = random.Random(25)
        seen = set()
        for number in range(320):
            race = drawn_race(draw, Race) if number % 5 else WHOLE
            many = number % 8 + 1
            seen.add((many, self.assert_settled(race, drawn_offers(draw, race, many))))
        self.assertLessEqual({(many, "chances") for many in range(1, 9)}, seen)
        self.assertLessEqual({(many, "stakes") for many in range(2, 9)}, seen)

    def test_fair_offers(self):
        draw = random.Random(24)
        for number in range(120):
            race = drawn_race(draw, Race)
            offers, chances = fair_offers(draw, race, number % 8 + 1)
            if len(offers) > 0:
                self.assertTrue(told_chances_hold(race, offers, chances))
                self.assertIs(chances_hold(race, offers, chances), True)
                self.assertEqual(self.assert_settled(race, offers), "chances")


class Surest(BookCase):
    def test_example(self):
        self.assertEqual(surest(RACE, (WIN,)), ((-1, 1), ((1, 1),), ((0, 1), (0, 1), (1, 1))))
        self.assertEqual(surest(RACE, (WIN, EVEN))[:2], ((1, 9), ((4, 9), (5, 9))))

    def test_nothing_is_surer(self):
        draw = random.Random(26)
        for number in range(60):
            race = drawn_race(draw, Race)
            offers = drawn_offers(draw, race, number % 8 + 1)
            value = number_of(surest(race, offers)[0])
            rows = rows_of(race, offers)
            for _ in range(5):
                parts = [draw.choice((0, 1, 2, 5)) for _ in offers]
                parts[0] += 1
                stakes = [Fraction(part, sum(parts)) for part in parts]
                self.assertLessEqual(min(gain_of(stakes, row) for row in rows), value)

    def test_above_zero_exactly_if_sure(self):
        offers = ((("top", 1, (0,)), (1000, 999), "for"), (("top", 1, (1,)), (999, 1000), "for"))
        self.assertEqual(self.assert_settled(Race(2, False), offers), "chances")
        self.assertEqual(surest(Race(2, False), offers)[0], (0, 1))
        offers = (offers[0], (("top", 1, (1,)), (1000, 1000 - 1), "for"))
        self.assertEqual(self.assert_settled(Race(2, False), offers), "stakes")

    def test_greatest_and_least(self):
        self.assertEqual(surest(Race(1), ((("row", (0,)), (1000, 1), "for"),))[0], (1000, 1))
        self.assertEqual(surest(Race(1), ((("row", (0,)), (1000, 1), "against"),))[0], (-1000, 1))
        self.assertEqual(surest(Race(1), ((("row", (0,)), (1, 1000), "against"),))[0], (-1, 1000))
        offers = ((("row", (0,)), (1000, 1), "against"), (("row", (0,)), (1, 1000), "for"))
        self.assertEqual(surest(Race(1), offers), ((1, 1000), ((0, 1), (1, 1)), ((1, 1),)))

    def test_bent(self):
        draw = random.Random(27)
        told_apart = 0
        for number in range(60):
            race = drawn_race(draw, Race, 3)
            offers = drawn_offers(draw, race, number % 8 + 1)
            value = surest(race, offers)
            for _ in range(12):
                other = bent(draw, value)
                held = surest_holds(race, offers, other)
                self.assertIs(held, told_surest_holds(race, offers, other))
                told_apart += held is False
        self.assertGreater(told_apart, 500)

    def test_bent_as_told(self):
        draw = random.Random(28)
        for number in range(40):
            race = drawn_race(draw, Race, 3)
            offers = drawn_offers(draw, race, number % 7 + 2)
            value, stakes, chances = surest(race, offers)
            for step in (Fraction(1, 10 ** 20), Fraction(-1, 10 ** 20), 1, -1):
                moved = pair(Fraction(*value) + step)
                self.assertIs(surest_holds(race, offers, (moved, stakes, chances)), False)
            # Moved alone, a stake or a chance takes the sum from 1.
            for at, stake in enumerate(stakes):
                other = stakes[:at] + (pair(Fraction(*stake) + Fraction(1, 10 ** 9)),) + stakes[at + 1:]
                self.assertIs(surest_holds(race, offers, (value, other, chances)), False)
            for at, chance in enumerate(chances):
                other = chances[:at] + (pair(Fraction(*chance) + Fraction(1, 10 ** 9)),) + chances[at + 1:]
                self.assertIs(surest_holds(race, offers, (value, stakes, other)), False)
                doubled = chances[:at] + ((2 * chance[0], 2 * chance[1]),) + chances[at + 1:]
                self.assertIs(surest_holds(race, offers, (value, stakes, doubled)), False)
            for other in ((value, stakes), (value, stakes, chances, ()), (value, stakes[1:], chances),
                          (value, stakes, chances[:-1]), (chances, stakes, value), (value, chances, stakes),
                          ((2 * value[0], 2 * value[1]), stakes, chances)):
                if other != (value, stakes, chances):
                    self.assertIs(surest_holds(race, offers, other), False)


if __name__ == "__main__":
    unittest.main()
