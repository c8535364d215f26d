"""[4], [5], [12], [14], [19], [28] to [32]"""

import random
import unittest
from fractions import Fraction

from racebooks.books import sure
from racebooks.checking import chances_hold, gain_holds
from racebooks.errors import BadOffer, BadValue
from racebooks.further import low_holds, low_odds, top_holds, top_odds
from racebooks.races import Race, outcomes
from tests.helpers import (ANY_VALUES, NO_FRACTIONS, NO_RACES, NO_SEQUENCES, Case, all_bets, all_races, listed, nested,
                           pair)
from tests.reckoning import (bent, drawn_bet, drawn_offers, drawn_race, fair_offers, gain_of, next_above, next_below,
                             number_of, offer_odds, rows_of, told_low_holds, told_top_holds)

RACE = Race(2, False)
# The outcomes are: 0 ahead, 1 ahead.
FIRST, SECOND = ("top", 1, (0,)), ("top", 1, (1,))
WIN, LAY = (FIRST, (3, 2), "for"), (FIRST, (3, 2), "against")
SURE = (WIN, (SECOND, (1, 1), "for"))
# Together these bar all outcomes in which 0 is second.
PINNED = ((("top", 2, (0,)), (1, 1), "for"), (FIRST, (1, 1), "against"))
LARGE = ANY_VALUES + (nested(40), "a" * 60000, ("b",) * 20000, ((1, 1),) * 5000)
FINDS, HOLDS = (top_odds, low_odds), (top_holds, low_holds)
TOLD = {top_holds: told_top_holds, low_holds: told_low_holds}
# Whole answers for RACE: offers, bet, odds, proof.
TOP_OF_SECOND = ((WIN,), SECOND, (2, 3), (((2, 5), (3, 5)), ((2, 3),), (5, 1), ((2, 1),)))
TOP_NONE = ((LAY,), SECOND, None, ((1, 1), (0, 1)))
LOW_OF_SECOND = ((LAY,), SECOND, (2, 3), (((2, 5), (3, 5)), ((2, 3),), (1, 1), ((0, 1),)))
LOW_ZERO = ((WIN,), SECOND, (0, 1), (((0, 1), (1, 1)), ((0, 1),), None, None))


class FurtherCase(Case):
    def assert_told(self, race, offers, bet):
        """Checks what both functions return, by the package and by the second reckoning; returns both odds."""
        found = []
        for find, holds in zip(FINDS, HOLDS):
            answer = find(race, offers, bet)
            self.assertIs(type(answer), tuple)
            odds, proof = answer
            self.assert_plain(proof)
            found.append(odds)
            if odds == "sure":
                self.assertIs(gain_holds(race, offers, proof), True)
                self.assertIs(holds(race, offers, bet, odds, proof), False)
            else:
                self.assert_plain(odds)
                self.assertIs(holds(race, offers, bet, odds, proof), True)
                self.assertTrue(TOLD[holds](race, offers, bet, odds, proof))
        top, low = found
        self.assertEqual(top == "sure", low == "sure")
        if top not in ("sure", None):
            self.assertIsNotNone(low)
            self.assertLessEqual(number_of(low), number_of(top))
        return top, low

    def assert_sure_where_told(self, race, offers, bet, top, low):
        """Asks sure at odds just above and below the told ones, at these, and at the greatest and least."""
        asked = {Fraction(1000), Fraction(1), Fraction(1, 1000)}
        for odds in (top, low):
            if odds is not None:
                number = number_of(odds)
                asked |= {near for near in (number, next_above(number), next_below(number)) if near is not None}
        for odds in [pair(near) for near in asked if offer_odds(near)]:
            above = top is not None and number_of(odds) > number_of(top)
            below = low is None or number_of(odds) < number_of(low)
            ahead, behind = (bet, odds, "for"), (bet, odds, "against")
            self.assertEqual(sure(race, offers + (ahead,))[0], "stakes" if above else "chances")
            self.assertEqual(sure(race, offers + (behind,))[0], "stakes" if below else "chances")
            if len(offers) < 7:
                # Chances that bar both give the bet a mean gain of 0.
                self.assertEqual(sure(race, offers + (ahead, behind))[0], "stakes" if above or below else "chances")


class Arguments(Case):
    def calls(self):
        for find in FINDS:
            yield find, ()
        for holds, told in ((top_holds, TOP_OF_SECOND), (low_holds, LOW_OF_SECOND)):
            yield holds, told[2:]
            yield holds, ("sure", None)

    def test_wrong_races(self):
        for function, rest in self.calls():
            for race in NO_RACES:
                self.assert_raises_with(BadValue, 1, function, race, (WIN,), SECOND, *rest)

    def test_wrong_offers(self):
        for function, rest in self.calls():
            for offers in NO_SEQUENCES + ((WIN,) * 8, [WIN] * 9, (None,) * 8, tuple(range(300)), 10 ** 30):
                self.assert_raises_with(BadValue, 2, function, RACE, offers, SECOND, *rest)
            wrong = (WIN[:2], (("row", (2,)),) + WIN[1:], (FIRST, (6, 4), "for"), (FIRST, (0, 1), "for"),
                     (FIRST, (1001, 1), "for"), (FIRST, (1, 1), "+"), FIRST)
            for offer in ANY_VALUES + wrong:
                for at in (0, 3, 6):
                    offers = [WIN] * 7
                    offers[at] = offer
                    self.assert_raises_with(BadOffer, at, function, RACE, offers, SECOND, *rest)

    def test_wrong_bets(self):
        for function, rest in self.calls():
            for bet in ANY_VALUES + (WIN, (SECOND,), ("top", 1, (2,)), ("top", 1, (0, 1)), ("row", (0, 0)),
                                     ("top", 4, (0,)), ("row", (2,)), "row"):
                self.assert_raises_with(BadValue, 3, function, RACE, (WIN,), bet, *rest)
                self.assert_raises_with(BadValue, 3, function, RACE, (), bet, *rest)
                self.assert_raises_with(BadValue, 3, function, RACE, SURE, bet, *rest)

    def test_errors_in_their_order(self):
        for function, rest in self.calls():
            rest = (None,) * len(rest)
            self.assert_raises_with(BadValue, 1, function, None, None, None, *rest)
            self.assert_raises_with(BadValue, 1, function, None, (None,), SECOND, *rest)
            self.assert_raises_with(BadValue, 2, function, RACE, None, None, *rest)
            self.assert_raises_with(BadValue, 2, function, RACE, (None,) * 8, None, *rest)
            self.assert_raises_with(BadValue, 2, function, RACE, (WIN,) * 8, None, *rest)
            self.assert_raises_with(BadOffer, 1, function, RACE, (WIN, None, None), None, *rest)
            self.assert_raises_with(BadOffer, 6, function, RACE, (WIN,) * 6 + (None,), (), *rest)
            self.assert_raises_with(BadValue, 3, function, RACE, (WIN,), None, *rest)

    def test_names_and_lists(self):
        for find, holds, told in ((top_odds, top_holds, TOP_OF_SECOND), (low_odds, low_holds, LOW_OF_SECOND),
                                  (top_odds, top_holds, TOP_NONE), (low_odds, low_holds, LOW_ZERO)):
            offers, bet, odds, proof = told
            given = listed(told)
            self.assertEqual(find(race=RACE, offers=given[0], bet=given[1])[0], odds)
            self.assertIs(holds(race=RACE, offers=given[0], bet=given[1], odds=given[2], proof=given[3]), True)
            self.assertIs(holds(RACE, offers, bet, odds, tuple(given[3])), True)
            self.assertIs(holds(RACE, offers, bet, odds, list(proof)), True)
            self.assertEqual(given, listed(told))

    def test_later_changes_of_lists(self):
        for find in FINDS:
            offers, bet = listed((LAY,)), listed(SECOND)
            found = find(RACE, offers, bet)
            kept = listed(found)
            offers[0][1][0] = 9
            bet[2][0] = 0
            offers.clear()
            self.assertEqual(listed(found), kept)

    def test_any_value(self):
        for holds, told in ((top_holds, TOP_OF_SECOND), (top_holds, TOP_NONE), (low_holds, LOW_OF_SECOND),
                            (low_holds, LOW_ZERO)):
            offers, bet, odds, proof = told
            for value in LARGE:
                self.assertIs(holds(RACE, offers, bet, odds, value), False)
                self.assertIs(holds(RACE, offers, bet, value, value), False)
                if value is not None or odds is not None:
                    self.assertIs(holds(RACE, offers, bet, value, proof), False)
                for at, part in enumerate(proof):
                    if part != value:
                        other = proof[:at] + (value,) + proof[at + 1:]
                        self.assertIs(holds(RACE, offers, bet, odds, other), False)
                        self.assertIs(holds(RACE, offers, bet, odds, listed(other)), False)


class TopOdds(FurtherCase):
    def test_told_odds(self):
        # 3/2 on the one and u on the other leave a sure gain if 3/2 times u is above 1.
        self.assertEqual(top_odds(RACE, (WIN,), SECOND)[0], (2, 3))
        self.assertEqual(top_odds(RACE, (WIN,), ("row", (1, 0)))[0], (2, 3))
        self.assertEqual(top_odds(RACE, (LAY,), FIRST)[0], (3, 2))
        self.assertEqual(top_odds(RACE, (LAY, WIN), FIRST)[0], (3, 2))
        self.assertEqual(top_odds(RACE, (LAY, WIN), SECOND)[0], (2, 3))
        self.assertEqual(top_odds(RACE, ((FIRST, (1, 1000), "for"),), SECOND)[0], (1000, 1))

    def test_odds_above_a_thousand(self):
        # 2 wins with a chance of at least 1/1000, and 1 is behind it with one of at most 1/1001.
        offers = ((("top", 1, (2,)), (999, 1), "against"), (("row", (2, 1)), (1000, 1), "for"))
        self.assertEqual(self.assert_told(Race(3, False), offers, ("row", (2, 0))), ((1000999, 1), (0, 1)))

    def test_zero(self):
        # A bet that is right in every outcome gains at all odds above 0.
        self.assertEqual(self.assert_told(Race(1), (), ("row", (0,))), ((0, 1), (0, 1)))
        self.assertEqual(self.assert_told(RACE, (), ("top", 2, (1,))), ((0, 1), (0, 1)))
        self.assertEqual(self.assert_told(RACE, (WIN, LAY), ("top", 3, (0, 1))), ((0, 1), (0, 1)))
        self.assertEqual(top_odds(Race(1), (), ("row", (0,)))[1], (((1, 1),), (), (1, 1), ()))

    def test_none(self):
        odds, proof = top_odds(RACE, (), FIRST)
        self.assertIsNone(odds)
        self.assertEqual(proof, ((0, 1), (1, 1)))
        self.assertEqual(top_odds(RACE, (LAY,), SECOND), (None, ((1, 1), (0, 1))))
        self.assertEqual(top_odds(RACE, (WIN,), FIRST), (None, ((0, 1), (1, 1))))
        # Void in one outcome: no gain there, at whatever odds.
        race = Race(2, False, (1,))
        odds, proof = top_odds(race, (), ("top", 2, (1,)))
        self.assertEqual((odds, proof), (None, tuple((int(w == ((0,),)), 1) for w in outcomes(race))))

    def test_sure(self):
        for bet in all_bets(2):
            word, stakes = top_odds(RACE, SURE, bet)
            self.assertEqual(word, "sure")
            self.assertIs(gain_holds(RACE, SURE, stakes), True)
        # Where both just do not leave one.
        self.assertEqual(top_odds(RACE, ((FIRST, (2, 3), "for"), (SECOND, (3, 2), "for")), FIRST)[0], (2, 3))

    def test_holds(self):
        for offers, bet, odds, proof in (TOP_OF_SECOND, TOP_NONE):
            self.assertIs(top_holds(RACE, offers, bet, odds, proof), True)
        # Numbers that are chosen otherwise.
        offers, bet, odds, proof = TOP_OF_SECOND
        chances, stakes, weight, more = proof
        for other in ((chances, stakes, (10 ** 30, 1), ((10 ** 20, 1),)), (chances, stakes, (5, 2), ((1, 1),))):
            self.assertIs(top_holds(RACE, offers, bet, odds, other), True)
        self.assertIs(top_holds(RACE, (), FIRST, None, ((0, 1), (1, 1))), True)
        self.assertIs(top_holds(Race(1), (), FIRST, (0, 1), (((1, 1),), (), (1, 1), ())), True)

    def test_no_odds_but_the_told_ones(self):
        offers, bet, odds, proof = TOP_OF_SECOND
        for other in ((0, 1), (1, 1), (3, 2), (-2, 3), (4, 6), (1, 0), (2 * 10 ** 29 - 1, 3 * 10 ** 29),
                      (2 * 10 ** 29 + 1, 3 * 10 ** 29), None, "sure", True, False, 0, (2, 3, 1), ((2, 3),), "2/3", 23):
            self.assertIs(top_holds(RACE, offers, bet, other, proof), False)
            self.assertIs(top_holds(RACE, offers, bet, other, proof[0]), False)
        for other in NO_FRACTIONS:
            self.assertIs(top_holds(RACE, offers, bet, other, proof), False)
            self.assertIs(top_holds(Race(1), (), FIRST, other, (((1, 1),), (), (1, 1), ())), False)
        for other in ((0, 1), (1, 1), (1000, 1), "sure", (10 ** 30, 1)):
            for proof in (TOP_NONE[3], (TOP_NONE[3], ((0, 1),), (1, 1), ((0, 1),))):
                self.assertIs(top_holds(RACE, TOP_NONE[0], SECOND, other, proof), False)
        self.assertIs(top_holds(RACE, SURE, FIRST, "sure", sure(RACE, SURE)[1]), False)

    def test_bent_proofs(self):
        offers, bet, odds, proof = TOP_OF_SECOND
        chances, stakes, weight, more = proof
        wrong = (
            (((1, 2), (1, 2)), stakes, weight, more), (((0, 1), (1, 1)), stakes, weight, more),
            (((2, 5), (2, 5)), stakes, weight, more), (((4, 10), (3, 5)), stakes, weight, more),
            (chances, ((0, 1),), weight, more), (chances, ((1, 1),), weight, more), (chances, (), weight, more),
            (chances, ((2, 3), (0, 1)), weight, more), (chances, ((-2, 3),), weight, more),
            (chances, stakes, (0, 1), more), (chances, stakes, (-5, 1), more), (chances, stakes, (2, 1), more),
            (chances, stakes, (10, 2), more), (chances, stakes, None, more), (chances, stakes, 5, more),
            (chances, stakes, weight, ((0, 1),)), (chances, stakes, weight, ((6, 1),)), (chances, stakes, weight, ()),
            (chances, stakes, weight, ((-2, 1),)), (chances, stakes, weight, None), (chances, stakes, None, None),
            (stakes, chances, weight, more), (chances, more, weight, stakes), (chances, stakes, more, weight),
            proof[:3], proof + ((),), (proof,), chances, ())
        for other in wrong:
            self.assertIs(top_holds(RACE, offers, bet, odds, other), False)
            self.assertIs(top_holds(RACE, offers, bet, odds, listed(other)), False)
        for other in (((0, 1), (1, 1)), ((1, 2), (1, 2)), ((1, 1),), ((1, 1), (0, 1), (0, 1)), ((1, 1), (1, 1)),
                      ((2, 1), (-1, 1)), (TOP_NONE[3],), ((1, 1), (0, 2)),
                      ((10 ** 30 - 1, 10 ** 30), (1, 10 ** 30))):
            self.assertIs(top_holds(RACE, (LAY,), SECOND, None, other), False)

    def test_proofs_of_the_other_side(self):
        for told in (LOW_OF_SECOND, LOW_ZERO):
            self.assertIs(top_holds(RACE, told[0], told[1], told[2], told[3]), False)
        low = low_odds(RACE, (WIN, LAY), SECOND)
        self.assertEqual(low[0], (2, 3))
        self.assertIs(top_holds(RACE, (WIN, LAY), SECOND, *top_odds(RACE, (WIN, LAY), SECOND)), True)
        self.assertIs(top_holds(RACE, (WIN, LAY), SECOND, *low), False)


class LowOdds(FurtherCase):
    def test_told_odds(self):
        self.assertEqual(low_odds(RACE, (LAY,), SECOND)[0], (2, 3))
        self.assertEqual(low_odds(RACE, (LAY,), ("row", (1, 0)))[0], (2, 3))
        self.assertEqual(low_odds(RACE, (WIN,), FIRST)[0], (3, 2))
        self.assertEqual(low_odds(RACE, (WIN, LAY), FIRST)[0], (3, 2))
        self.assertEqual(low_odds(RACE, (WIN, LAY), SECOND)[0], (2, 3))
        self.assertEqual(low_odds(RACE, ((FIRST, (1, 1000), "against"),), SECOND)[0], (1000, 1))

    def test_odds_above_a_thousand(self):
        # 2 wins with a chance of at most 1/1000, and 1 is behind it with one of at least 1/1001.
        offers = ((("top", 1, (2,)), (999, 1), "for"), (("row", (2, 1)), (1000, 1), "against"))
        self.assertEqual(self.assert_told(Race(3, False), offers, ("row", (2, 0))), (None, (1000999, 1)))

    def test_zero(self):
        self.assertEqual(low_odds(RACE, (), FIRST)[0], (0, 1))
        self.assertEqual(low_odds(RACE, (WIN,), SECOND), LOW_ZERO[2:])
        self.assertEqual(low_odds(RACE, (), SECOND), ((0, 1), (((0, 1), (1, 1)), (), None, None)))
        # Void in one outcome: no gain there, at whatever odds.
        race = Race(2, False, (0,))
        odds, proof = low_odds(race, ((FIRST, (1, 1000), "against"),), FIRST)
        self.assertEqual((odds, proof[1:]), ((0, 1), (((0, 1),), None, None)))

    def test_none(self):
        race = Race(3)
        for bet in (("row", (1, 0)), ("row", (2, 0, 1)), ("row", (1, 0, 2))):
            self.assertEqual(self.assert_told(race, PINNED, bet), (None, None))
            chances, stakes, weight, more = low_odds(race, PINNED, bet)[1]
            self.assertIs(chances_hold(race, PINNED, chances), True)
            self.assertEqual((len(stakes), len(weight), len(more)), (2, 2, 2))
            self.assert_sure_where_told(race, PINNED, bet, None, None)
        self.assertEqual(self.assert_told(race, PINNED, FIRST), ((1, 1), (1, 1)))

    def test_none_with_cuts(self):
        race, bet = Race(3, True, (2,), (0, 0, 60)), ("row", (1, 0))
        self.assertEqual(self.assert_told(race, PINNED, bet), (None, None))
        self.assert_sure_where_told(race, PINNED, bet, None, None)

    def test_sure(self):
        for bet in all_bets(2):
            word, stakes = low_odds(RACE, SURE, bet)
            self.assertEqual(word, "sure")
            self.assertIs(gain_holds(RACE, SURE, stakes), True)

    def test_holds(self):
        for offers, bet, odds, proof in (LOW_OF_SECOND, LOW_ZERO):
            self.assertIs(low_holds(RACE, offers, bet, odds, proof), True)
        offers, bet, odds, proof = LOW_OF_SECOND
        chances, stakes, weight, more = proof
        for other in ((chances, stakes, (10 ** 30, 1), more), (chances, stakes, (7, 1), ((4, 1),))):
            self.assertIs(low_holds(RACE, offers, bet, odds, other), True)

    def test_weight_and_more_are_none_exactly_at_zero(self):
        offers, bet, odds, proof = LOW_ZERO
        chances, stakes, _, _ = proof
        # The weight and more of the other odds would be right: the bet is void in no outcome.
        for weight, more in (((1, 1), ((0, 1),)), ((1, 1), None), (None, ((0, 1),)), ((0, 1), ((0, 1),)), (0, 0),
                             (False, None), (None, False), (None, ()), ((), None)):
            self.assertIs(low_holds(RACE, offers, bet, odds, (chances, stakes, weight, more)), False)
            self.assertIs(low_holds(RACE, offers, bet, list(odds), [chances, stakes, weight, more]), False)
        self.assertIs(low_holds(RACE, offers, bet, [0, 1], [chances, stakes, None, None]), True)
        chances, stakes, weight, more = LOW_OF_SECOND[3]
        self.assertIs(low_holds(RACE, (LAY,), SECOND, (2, 3), (chances, stakes, None, None)), False)
        self.assertIs(low_holds(RACE, (LAY,), SECOND, (2, 3), (chances, stakes, weight, None)), False)
        self.assertIs(low_holds(RACE, (LAY,), SECOND, (2, 3), (chances, stakes, None, more)), False)

    def test_no_odds_but_the_told_ones(self):
        offers, bet, odds, proof = LOW_OF_SECOND
        for other in ((0, 1), (1, 1), (3, 2), (-2, 3), (4, 6), (1, 0), (2 * 10 ** 29 - 1, 3 * 10 ** 29),
                      (2 * 10 ** 29 + 1, 3 * 10 ** 29), None, "sure", True, False, 0, (2, 3, 1), ((2, 3),), "2/3", 23):
            self.assertIs(low_holds(RACE, offers, bet, other, proof), False)
            self.assertIs(low_holds(RACE, offers, bet, other, proof[:2] + (None, None)), False)
        for other in NO_FRACTIONS:
            self.assertIs(low_holds(RACE, offers, bet, other, proof), False)
            self.assertIs(low_holds(RACE, LOW_ZERO[0], SECOND, other, LOW_ZERO[3]), False)
        for other in (None, (1, 1), (1, 10 ** 30), (-1, 10 ** 30), "sure"):
            self.assertIs(low_holds(RACE, LOW_ZERO[0], SECOND, other, LOW_ZERO[3]), False)
        self.assertIs(low_holds(RACE, SURE, FIRST, "sure", sure(RACE, SURE)[1]), False)

    def test_bent_proofs(self):
        offers, bet, odds, proof = LOW_OF_SECOND
        chances, stakes, weight, more = proof
        wrong = (
            (((1, 2), (1, 2)), stakes, weight, more), (((1, 1), (0, 1)), stakes, weight, more),
            (((2, 5), (2, 5)), stakes, weight, more), (((4, 10), (3, 5)), stakes, weight, more),
            (chances, ((0, 1),), weight, more), (chances, ((1, 1),), weight, more), (chances, (), weight, more),
            (chances, ((2, 3), (0, 1)), weight, more), (chances, ((-2, 3),), weight, more),
            (chances, stakes, (0, 1), more), (chances, stakes, (-1, 1), more), (chances, stakes, (99, 100), more),
            (chances, stakes, (2, 2), more), (chances, stakes, 1, more), (chances, stakes, weight, ((1, 1),)),
            (chances, stakes, weight, ()), (chances, stakes, weight, ((-1, 1),)), (stakes, chances, weight, more),
            (chances, more, weight, stakes), (chances, stakes, more, weight), proof[:3], proof + ((),), (proof,),
            chances, ())
        for other in wrong:
            self.assertIs(low_holds(RACE, offers, bet, odds, other), False)
            self.assertIs(low_holds(RACE, offers, bet, odds, listed(other)), False)

    def test_bent_proofs_of_none(self):
        race, bet = Race(3, False), ("row", (1, 0))
        odds, proof = low_odds(race, PINNED, bet)
        chances, stakes, weight, more = proof
        self.assertIs(low_holds(race, PINNED, bet, odds, proof), True)
        for other in ((chances, ((0, 1), (0, 1)), weight, more), (chances, stakes, (0, 1), more),
                      (chances, stakes, (-1, 1), more), (chances, (), weight, more), (chances, stakes, weight, ()),
                      (chances, stakes, None, None), (((1, 6),) * 6, stakes, weight, more), proof[:3], chances,
                      (chances, ((1, 10 ** 9),) * 2, weight, more), (((0, 1),) * 6, stakes, weight, more)):
            self.assertIs(low_holds(race, PINNED, bet, odds, other), False)
        for other in ((0, 1), (1, 1), (10 ** 30, 1), "sure"):
            self.assertIs(low_holds(race, PINNED, bet, other, proof), False)
            self.assertIs(low_holds(race, PINNED, bet, other, (chances, stakes, None, None)), False)

    def test_proofs_of_the_other_side(self):
        for told in (TOP_OF_SECOND, TOP_NONE):
            self.assertIs(low_holds(RACE, told[0], told[1], told[2], told[3]), False)
        top = top_odds(RACE, (WIN, LAY), FIRST)
        self.assertEqual(top[0], (3, 2))
        self.assertIs(low_holds(RACE, (WIN, LAY), FIRST, *low_odds(RACE, (WIN, LAY), FIRST)), True)
        self.assertIs(low_holds(RACE, (WIN, LAY), FIRST, *top), False)


class BothOdds(FurtherCase):
    def test_no_offers(self):
        for race in all_races(3):
            for bet in all_bets(race.runners):
                top, low = self.assert_told(race, (), bet)
                self.assertEqual(low, (0, 1))
                beside = [row[0] for row in rows_of(race, ((bet, (1, 1000), "for"),))]
                self.assertEqual(top, (0, 1) if min(beside) > 0 else None)

    def test_a_bet_that_is_offered(self):
        # Odds of a bet that is offered on both sides are the only ones that leave no sure gain on either side.
        race = Race(3)
        for bet in all_bets(3):
            if bet[:2] != ("top", 3):
                for odds in ((1, 1), (3, 7), (1000, 1), (1, 1000)):
                    offers = ((bet, odds, "for"), (bet, odds, "against"))
                    self.assertEqual(self.assert_told(race, offers, bet), (odds, odds))

    def test_void_bets_and_offers(self):
        race = Race(2, True, (0,), (30, 0))
        void = ((FIRST, (2, 1), "for"), (("row", (0, 1)), (1, 5), "against"), (("top", 2, (0,)), (1, 1), "for"))
        for many in range(4):
            self.assertEqual(self.assert_told(race, void[:many], FIRST), (None, (0, 1)))
            top, low = self.assert_told(race, void[:many], SECOND)
            self.assert_sure_where_told(race, void[:many], SECOND, top, low)
        # Only with 0 withdrawn does the always right offer not gain, and then 1 wins.
        self.assertEqual(self.assert_told(race, void[2:], SECOND), ((0, 1), (0, 1)))

    def test_nothing_where_void(self):
        # If 0 is withdrawn nothing gains: only that bars the offer, and no odds do more.
        race = Race(2, False, (0,))
        offers = ((("top", 2, (0,)), (1, 1), "for"),)
        self.assertEqual(self.assert_told(race, offers, FIRST), (None, (0, 1)))
        chances = tuple((int(outcome == ((1,),)), 1) for outcome in outcomes(race))
        for odds in ((0, 1), (5, 1)):
            for stakes, weight, more in ((((5, 1),), (1, 1), ((1, 1),)), (((5, 1),), (10 ** 30, 1), ((10 ** 20, 1),))):
                proof = (chances, stakes, weight, more)
                self.assertIs(top_holds(race, offers, FIRST, odds, proof), False)
                self.assertIs(low_holds(race, offers, FIRST, odds, proof), False)
                self.assertIs(low_holds(race, offers, FIRST, None, proof), False)
        self.assertIs(low_holds(race, offers, FIRST, (0, 1), (chances, ((5, 1),), None, None)), True)
        self.assertIs(low_holds(race, offers, FIRST, (5, 1), (chances, ((5, 1),), None, None)), False)

    def test_cuts(self):
        # If 2 is withdrawn, 1 wins with a chance of at most 2/3; then 0 does with one of 1/3, and half is paid.
        race = Race(3, False, (2,), (0, 0, 50))
        offers = (((("top", 1, (1,)), (1, 1), "for")), (("top", 1, (2,)), (1000, 1), "for"))
        self.assertEqual(self.assert_told(race, offers, FIRST), ((4, 1), (0, 1)))
        self.assert_sure_where_told(race, offers, FIRST, (4, 1), (0, 1))

    def test_drawn_markets(self):
        draw = random.Random(33)
        seen = set()
        for number in range(60):
            runners = draw.randint(2, 4)
            absent = [runner for runner in range(1, runners) if draw.random() < 0.5]
            race = Race(runners, draw.random() < 0.5, absent, [draw.randint(0, 90) for _ in range(runners)])
            side = ("for", "against")[number % 2]
            offers = tuple((("top", 1, (runner,)), pair(Fraction(draw.randint(1, 60), draw.randint(1, 20))), side)
                           for runner in range(1, runners))
            top, low = self.assert_told(race, offers, FIRST)
            if top != "sure":
                self.assert_sure_where_told(race, offers, FIRST, top, low)
            seen.add((side, top in ("sure", None) or number_of(top) > 0, low in ("sure", None) or number_of(low) > 0))
        self.assertLessEqual({("for", True, False), ("against", True, True)}, seen)

    def test_drawn(self):
        draw = random.Random(29)
        seen = set()
        for number in range(200):
            race = drawn_race(draw, Race)
            many = number % 8
            offers = drawn_offers(draw, race, many)
            bet = offers[0][0] if many and draw.random() < 0.3 else drawn_bet(draw, race)
            top, low = self.assert_told(race, offers, bet)
            if top != "sure":
                self.assert_sure_where_told(race, offers, bet, top, low)
            seen.add(("top", top if top in ("sure", None) else number_of(top) > 0))
            seen.add(("low", low if low in ("sure", None) else number_of(low) > 0))
        self.assertLessEqual({(side, kind) for side in ("top", "low") for kind in ("sure", True, False)}, seen)
        self.assertIn(("top", None), seen)

    def test_drawn_beside_fair_offers(self):
        draw = random.Random(30)
        seen = set()
        for number in range(150):
            race = drawn_race(draw, Race)
            offers, chances = fair_offers(draw, race, number % 8)
            bet = drawn_bet(draw, race)
            top, low = self.assert_told(race, offers, bet)
            self.assertNotEqual(top, "sure")
            self.assert_sure_where_told(race, offers, bet, top, low)
            # The odds at which the bet gains 0 under the chances lie between both.
            paid = gain_of([Fraction(*chance) for chance in chances], paid_column(race, bet))
            lost = gain_of([Fraction(*chance) for chance in chances], lost_column(race, bet))
            if paid > 0:
                self.assertTrue(low is not None and number_of(low) <= lost / paid)
                self.assertTrue(top is None or number_of(top) >= lost / paid)
            seen.add((top is None or number_of(top) > 0, low is None or number_of(low) > 0))
        self.assertEqual(seen, {(True, True), (True, False), (False, False)})

    def test_drawn_bends(self):
        draw = random.Random(31)
        refused = {top_holds: 0, low_holds: 0}
        for number in range(80):
            race = drawn_race(draw, Race, 3)
            offers = drawn_offers(draw, race, number % 8) if number % 2 else fair_offers(draw, race, number % 8)[0]
            bet = offers[0][0] if offers and number % 3 == 0 else drawn_bet(draw, race)
            for find, holds in zip(FINDS, HOLDS):
                answer = find(race, offers, bet)
                for _ in range(8):
                    odds, proof = bent_answer(draw, answer)
                    held = holds(race, offers, bet, odds, proof)
                    self.assertIs(held, TOLD[holds](race, offers, bet, odds, proof))
                    refused[holds] += not held
        self.assertGreater(min(refused.values()), 300)

    def test_no_other_odds_with_the_same_proof(self):
        draw = random.Random(32)
        for number in range(60):
            race = drawn_race(draw, Race, 3)
            offers = fair_offers(draw, race, number % 8)[0]
            bet = drawn_bet(draw, race)
            for find, holds in zip(FINDS, HOLDS):
                odds, proof = find(race, offers, bet)
                others = {None, (0, 1), (1, 1), (1000, 1), "sure"}
                if odds is not None:
                    steps = (Fraction(1, 10 ** 20), -Fraction(1, 10 ** 20), 1)
                    others |= {pair(number_of(odds) + step) for step in steps}
                for other in others - {odds}:
                    self.assertIs(holds(race, offers, bet, other, proof), False)


def paid_column(race, bet):
    """What the bet gains at odds 1 more than at odds 0."""
    rows = rows_of(race, ((bet, (1, 1), "for"), (bet, (0, 1), "for")))
    return [one - none for one, none in rows]


def lost_column(race, bet):
    return [-row[0] for row in rows_of(race, ((bet, (0, 1), "for"),))]


def bent_answer(draw, answer):
    """The pair with its odds or, more often, its proof bent."""
    odds, proof = answer
    if draw.random() < 0.25:
        return (bent(draw, odds), proof)
    return (odds, bent(draw, proof))


if __name__ == "__main__":
    unittest.main()
