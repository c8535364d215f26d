"""[6], [12], [14], [33] to [35]"""

import random
import unittest
from fractions import Fraction

from racebooks.errors import BadOffer, BadValue
from racebooks.races import Race, outcomes
from racebooks.told import fit, fit_holds
from tests.helpers import (ANY_VALUES, NO_FRACTIONS, NO_RACES, NO_SEQUENCES, Case, all_bets, listed, nested, pair,
                           told_share)
from tests.reckoning import bent, drawn_quotes, fitting_quotes, number_of, part_at, places_of, told_fit_holds

RACE = Race(2)
FIRST, SECOND = ("top", 1, (0,)), ("top", 1, (1,))
QUOTE = (FIRST, (1, 2))
# In each outcome both shares come to 1 together, and the told chances to more: no chances have these.
OVER = ((FIRST, (3, 5)), (SECOND, (3, 5)))
WEIGHTS = ("weights", ((-5, 1), (-5, 1)))
CHANCES = ("chances", ((1, 2), (0, 1), (1, 2)))
LARGE = ANY_VALUES + (nested(40), "a" * 60000, ("b",) * 20000, ((1, 1),) * 5000)
NO_CHANCES = NO_FRACTIONS + ((-1, 1), (2, 1), (3, 2), (-1, 10 ** 30), (10 ** 30 + 1, 10 ** 30), (10 ** 30, 1))


def quote_race(draw, most=4):
    return Race(draw.randint(1, most), draw.random() < 0.6, (), ())


class ToldCase(Case):
    def assert_fit(self, race, quotes):
        """Checks what fit returns, by the package and by the second reckoning; returns its word."""
        found = fit(race, quotes)
        self.assertIs(type(found), tuple)
        self.assertEqual(len(found), 2)
        word, shown = found
        self.assert_plain(shown)
        self.assertIn(word, ("chances", "weights"))
        self.assertIs(fit_holds(race, quotes, found), True)
        self.assertTrue(told_fit_holds(race, quotes, found))
        other = "weights" if word == "chances" else "chances"
        self.assertIs(fit_holds(race, quotes, (other, shown)), False)
        return word


class Arguments(ToldCase):
    def calls(self):
        return ((fit, ()), (fit_holds, (CHANCES,)), (fit_holds, (None,)))

    def test_wrong_races(self):
        for function, rest in self.calls():
            for race in NO_RACES:
                self.assert_raises_with(BadValue, 1, function, race, (QUOTE,), *rest)

    def test_races_with_runners_that_may_be_withdrawn(self):
        for function, rest in self.calls():
            for race in (Race(2, True, (0,)), Race(2, False, [1]), Race(2, True, (0, 1), (1, 2)), Race(4, True, (3,)),
                         Race(1, True, (0,))):
                self.assert_raises_with(BadValue, 1, function, race, (QUOTE,), *rest)
        # Cuts alone do not matter.
        self.assertEqual(fit(Race(2, True, (), (50, 90)), (QUOTE,))[0], "chances")

    def test_wrong_quotes(self):
        for function, rest in self.calls():
            for quotes in NO_SEQUENCES + ((), [], (QUOTE,) * 9, [QUOTE] * 10, (None,) * 9, tuple(range(300))):
                self.assert_raises_with(BadValue, 2, function, RACE, quotes, *rest)
            wrong = (QUOTE[:1], QUOTE + (1,), QUOTE[::-1], (FIRST, (1, 2), "for"), (("top", 1, (2,)), (1, 2)),
                     (("row", (0, 0)), (1, 2)), (("top", 4, (0,)), (1, 2)), ("row", (0,)), FIRST, ("row", (1, 2)))
            for quote in ANY_VALUES + wrong + (nested(39),):
                for at in (0, 4, 7):
                    quotes = [QUOTE] * 8
                    quotes[at] = quote
                    self.assert_raises_with(BadOffer, at, function, RACE, quotes, *rest)

    def test_wrong_chances(self):
        for function, rest in self.calls():
            for chance in NO_CHANCES:
                self.assert_raises_with(BadOffer, 1, function, RACE, (QUOTE, (SECOND, chance)), *rest)

    def test_a_quote_is_no_sequence_of_quotes(self):
        self.assert_raises_with(BadOffer, 0, fit, RACE, QUOTE)

    def test_errors_in_their_order(self):
        withdrawn = Race(2, True, (0,))
        for function, rest in self.calls():
            rest = (None,) * len(rest)
            self.assert_raises_with(BadValue, 1, function, None, None, *rest)
            self.assert_raises_with(BadValue, 1, function, None, (None,), *rest)
            self.assert_raises_with(BadValue, 1, function, withdrawn, None, *rest)
            self.assert_raises_with(BadValue, 1, function, withdrawn, (None,), *rest)
            self.assert_raises_with(BadValue, 2, function, RACE, None, *rest)
            self.assert_raises_with(BadValue, 2, function, RACE, (None,) * 9, *rest)
            self.assert_raises_with(BadOffer, 1, function, RACE, (QUOTE, None, None), *rest)
            self.assert_raises_with(BadOffer, 0, function, RACE, (None, None), *rest)

    def test_lists_and_names(self):
        draw = random.Random(33)
        for number in range(20):
            race = quote_race(draw, 3)
            quotes = drawn_quotes(draw, race, 3)
            given = listed(quotes)
            found = fit(race=race, quotes=given)
            self.assertEqual(found, fit(race, quotes))
            told = listed(found)
            self.assertIs(fit_holds(race=race, quotes=given, value=told), True)
            self.assertIs(fit_holds(race, quotes, [found[0], tuple(told[1])]), True)
            self.assertEqual((given, told), (listed(quotes), listed(found)))
            given.clear()
            self.assertEqual(told, listed(found))
            for way in places_of(found):
                self.assertIn(type(part_at(found, way)), (tuple, int, str))


class Fit(ToldCase):
    def test_as_told(self):
        self.assertEqual(self.assert_fit(RACE, (QUOTE,)), "chances")
        self.assertEqual(self.assert_fit(RACE, (QUOTE, (SECOND, (1, 2)))), "chances")
        self.assertEqual(fit(RACE, OVER), WEIGHTS)
        self.assertEqual(fit(RACE, ((FIRST, (2, 5)), (SECOND, (2, 5)))), ("weights", ((5, 1), (5, 1))))

    def test_one_runner(self):
        for bet in all_bets(1):
            self.assertEqual(fit(Race(1), ((bet, (1, 1)),)), ("chances", ((1, 1),)))
            for chance in ((0, 1), (1, 2), (10 ** 30 - 1, 10 ** 30)):
                self.assertEqual(self.assert_fit(Race(1), ((bet, chance),)), "weights")
        self.assertEqual(fit(Race(1), ((FIRST, (2, 3)),)), ("weights", ((3, 1),)))

    def test_four_runners(self):
        for ties in (True, False):
            race = Race(4, ties)
            for tops in ((1, 2, 3, 4), (1, 2, 3, 5), (0, 0, 0, 10), (0, 0, 0, 9), (1, 1, 1, 6), (4, 3, 3, 1)):
                quotes = tuple((("top", 1, (runner,)), pair(Fraction(top, 10))) for runner, top in enumerate(tops))
                self.assertEqual(self.assert_fit(race, quotes), "chances" if sum(tops) == 10 else "weights")

    def test_chances_of_all_sets_and_of_all_sequences(self):
        # Of three runners two are among the first two, and the six sequences of three come in with 1 together.
        race = Race(3, False)
        for tops, word in (((1, 1, 0), "chances"), ((1, 1, 1), "weights"), ((1, 0, 0), "weights")):
            quotes = tuple((("top", 2, (runner,)), (top, 1)) for runner, top in enumerate(tops))
            self.assertEqual(self.assert_fit(race, quotes), word)
        rows = [bet for bet in all_bets(3) if bet[0] == "row" and len(bet[1]) == 3]
        self.assertEqual(self.assert_fit(race, [(bet, (1, 6)) for bet in rows]), "chances")
        self.assertEqual(self.assert_fit(race, [(bet, (1, 7)) for bet in rows]), "weights")
        self.assertEqual(self.assert_fit(race, [(bet, (1, 5)) for bet in rows]), "weights")

    def test_one_quote(self):
        # The chances of a bet go from its least share to its greatest one.
        for runners in (1, 2, 3):
            for ties in (True, False):
                race = Race(runners, ties)
                for bet in all_bets(runners):
                    shares = [told_share(bet, outcome) for outcome in outcomes(race)]
                    for chance in (Fraction(0), Fraction(1, 2), Fraction(1), Fraction(1, 10 ** 30)):
                        word = "chances" if min(shares) <= chance <= max(shares) else "weights"
                        self.assertEqual(self.assert_fit(race, ((bet, pair(chance)),)), word)

    def test_eight_quotes(self):
        draw = random.Random(8)
        for number in range(10):
            race = Race(4, number % 2 == 0)
            quotes, chances = fitting_quotes(draw, race, 8)
            self.assertEqual(self.assert_fit(race, quotes), "chances")
            self.assertIs(fit_holds(race, quotes, ("chances", chances)), True)
            self.assertIn(self.assert_fit(race, drawn_quotes(draw, race, 8)), ("chances", "weights"))

    def test_the_same_bet_twice(self):
        self.assertEqual(self.assert_fit(RACE, (QUOTE, QUOTE)), "chances")
        self.assertEqual(self.assert_fit(RACE, (QUOTE, (FIRST, (1, 3)))), "weights")
        self.assertEqual(self.assert_fit(RACE, (QUOTE, (("row", (0,)), (1, 3)))), "weights")

    def test_weights_of_both_signs(self):
        # The row is right only if 0 is first, but is told to be so more often.
        quotes = ((FIRST, (1, 4)), (("row", (0, 1)), (1, 3)))
        word, weights = fit(Race(2, False), quotes)
        self.assertEqual(word, "weights")
        self.assertGreater(weights[0][0], 0)
        self.assertLess(weights[1][0], 0)
        self.assertEqual(self.assert_fit(Race(2, False), quotes), "weights")

    def test_level_runners(self):
        # Only with 0 and 1 level is the one right as often as the other in each outcome.
        chances = ("chances", ((0, 1), (1, 1), (0, 1)))
        self.assertIs(fit_holds(RACE, (QUOTE, (SECOND, (1, 2))), chances), True)
        self.assertEqual(self.assert_fit(Race(2, False), (QUOTE, (SECOND, (1, 2)))), "chances")

    def test_drawn(self):
        draw = random.Random(34)
        words = []
        for number in range(150):
            race = quote_race(draw)
            many = number % 8 + 1
            words.append(self.assert_fit(race, drawn_quotes(draw, race, many)))
            quotes, chances = fitting_quotes(draw, race, many)
            self.assertEqual(self.assert_fit(race, quotes), "chances")
            self.assertIs(fit_holds(race, quotes, ("chances", chances)), True)
        self.assertLessEqual({"chances", "weights"}, set(words))

    def test_drawn_near_ones(self):
        draw = random.Random(35)
        words = []
        for number in range(100):
            race = quote_race(draw, 3)
            quotes = list(fitting_quotes(draw, race, number % 8 + 1)[0])
            at = draw.randrange(len(quotes))
            bet, chance = quotes[at]
            moved = number_of(chance) + draw.choice((1, -1)) * Fraction(1, draw.choice((3, 100, 10 ** 30)))
            quotes[at] = (bet, pair(min(Fraction(1), max(Fraction(0), moved))))
            words.append(self.assert_fit(race, quotes))
        self.assertEqual(set(words), {"chances", "weights"})


class FitHolds(ToldCase):
    def test_as_told(self):
        for top in (0, 1, 2):
            chances = (pair(Fraction(top, 4)), pair(Fraction(2 - top, 2)), pair(Fraction(top, 4)))
            self.assertIs(fit_holds(RACE, (QUOTE,), ("chances", chances)), True)
        self.assertIs(fit_holds(RACE, OVER, WEIGHTS), True)
        for weights in (((-10 ** 40, 1), (-10 ** 40, 1)), ((-5, 1), (-5, 1)), ((-11, 2), (-11, 2))):
            self.assertIs(fit_holds(RACE, OVER, ("weights", weights)), True)
        self.assertIs(fit_holds(Race(2, False), OVER, ("weights", ((-6, 1), (-6, 1)))), True)

    def test_wrong_chances(self):
        wrong = (((1, 1), (0, 1), (0, 1)), ((1, 3), (0, 1), (1, 2)), ((1, 2), (0, 1)), ((1, 2), (0, 1), (1, 2), (0, 1)),
                 ((2, 4), (0, 1), (1, 2)), ((1, 2), (0, 2), (1, 2)), ((3, 4), (-1, 2), (3, 4)), (), (1, 0, 1),
                 ((1, 4), (0, 1), (1, 4)), ((1, 2), 0, (1, 2)), ((0, 1), (0, 1), (0, 1)), "101",
                 ((10 ** 30 - 1, 2 * 10 ** 30), (0, 1), (10 ** 30 + 1, 2 * 10 ** 30)))
        for chances in wrong:
            self.assertIs(fit_holds(RACE, (QUOTE,), ("chances", chances)), False)
            self.assertIs(fit_holds(RACE, (QUOTE,), ["chances", listed(chances)]), False)

    def test_each_quote_counts(self):
        chances = ("chances", ((1, 3), (0, 1), (2, 3)))
        self.assertIs(fit_holds(RACE, ((FIRST, (1, 3)), (SECOND, (2, 3))), chances), True)
        self.assertIs(fit_holds(RACE, ((FIRST, (1, 3)), (SECOND, (1, 3))), chances), False)
        self.assertIs(fit_holds(RACE, ((FIRST, (2, 3)), (SECOND, (2, 3))), chances), False)

    def test_wrong_weights(self):
        wrong = (((5, 1), (5, 1)), ((0, 1), (0, 1)), ((-5, 1),), ((-5, 1),) * 3, ((-10, 2), (-5, 1)), (-5, -5), (),
                 ((-5, 1), None), ((-5, True), (-5, 1)), ((5, -1), (5, -1)), ((-4, 1), (-5, 1)), ((-6, 1), (-4, 1)),
                 ((1 - 5 * 10 ** 30, 10 ** 30), (-5, 1)), "55", None)
        for weights in wrong:
            self.assertIs(fit_holds(RACE, OVER, ("weights", weights)), False)
            self.assertIs(fit_holds(RACE, OVER, ["weights", listed(weights)]), False)

    def test_wrong_words(self):
        for word in ("weight", "Weights", "stakes", "", "weights ", None, True, 0, ("weights",), ["weights"], "sure"):
            self.assertIs(fit_holds(RACE, OVER, (word, WEIGHTS[1])), False)
            self.assertIs(fit_holds(RACE, (QUOTE,), (word, CHANCES[1])), False)
        self.assertIs(fit_holds(RACE, OVER, ("chances", WEIGHTS[1])), False)
        self.assertIs(fit_holds(RACE, (QUOTE,), ("weights", CHANCES[1])), False)

    def test_wrong_pairs(self):
        for right, quotes in ((WEIGHTS, OVER), (CHANCES, (QUOTE,))):
            for value in (right[1], right[:1], right + (1,), right[::-1], (right,), ()):
                self.assertIs(fit_holds(RACE, quotes, value), False)

    def test_any_value(self):
        for quotes, word in (((QUOTE,), "chances"), (OVER, "weights")):
            for value in LARGE:
                self.assertIs(fit_holds(RACE, quotes, value), False)
                self.assertIs(fit_holds(RACE, quotes, (word, value)), False)
                self.assertIs(fit_holds(RACE, quotes, (value, fit(RACE, quotes)[1])), False)

    def test_drawn_bends(self):
        draw = random.Random(36)
        refused = {"chances": 0, "weights": 0}
        for number in range(120):
            race = quote_race(draw, 3)
            quotes = drawn_quotes(draw, race, number % 8 + 1)
            if number % 2:
                quotes = fitting_quotes(draw, race, number % 8 + 1)[0]
            found = fit(race, quotes)
            for _ in range(8):
                value = bent(draw, found)
                held = fit_holds(race, quotes, value)
                self.assertIs(held, told_fit_holds(race, quotes, value))
                refused[found[0]] += not held
        self.assertGreater(min(refused.values()), 100)


if __name__ == "__main__":
    unittest.main()
