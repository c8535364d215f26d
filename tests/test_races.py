"""[7], [12], [15] to [18]"""

import unittest
from fractions import Fraction
from itertools import combinations, permutations

from racebooks.errors import BadValue
from racebooks.races import Race, is_bet, is_outcome, outcomes, share
from tests.helpers import (ANY_VALUES, NO_INTEGERS, NO_RACES, NO_SEQUENCES, Case, all_bets, all_races, listed, nested,
                           told_outcomes, told_share)


def told(value):
    return repr(listed(value))


class Races(Case):
    def test_runners_from_one_to_four(self):
        for runners in (1, 2, 3, 4):
            self.assertEqual(Race(runners).runners, runners)

    def test_wrong_runners(self):
        for runners in (0, 5, -1, 10 ** 30, True, False, "2", None, (2,), [2], ()):
            self.assert_raises_with(BadValue, 1, Race, runners)

    def test_ties(self):
        self.assertIs(Race(2).ties, True)
        self.assertIs(Race(2, True).ties, True)
        self.assertIs(Race(2, False).ties, False)

    def test_wrong_ties(self):
        for ties in (0, 1, 2, None, "True", "", (), [], (True,)):
            self.assert_raises_with(BadValue, 2, Race, 2, ties)

    def test_absent(self):
        for many in range(5):
            for absent in combinations(range(4), many):
                self.assertEqual(Race(4, True, absent).absent, absent)
                self.assertEqual(Race(4, True, list(absent)).absent, absent)

    def test_wrong_absent(self):
        wrong = ((1, 0), (0, 2, 1), (0, 0), (1, 1), (0, 1, 1), (3,), (-1,), (-1, 0), (0, 3), (True,), (0, True),
                 (False,), ("0",), (None,), ((0,),), [[0]], 10 ** 30, (10 ** 30,))
        for absent in wrong + NO_SEQUENCES:
            self.assert_raises_with(BadValue, 3, Race, 3, True, absent)

    def test_cuts(self):
        self.assertEqual(Race(3).cuts, (0, 0, 0))
        self.assertEqual(Race(3, True, (), ()).cuts, (0, 0, 0))
        self.assertEqual(Race(3, True, (), []).cuts, (0, 0, 0))
        self.assertEqual(Race(3, True, (), (0, 90, 45)).cuts, (0, 90, 45))
        self.assertEqual(Race(1, True, (), [90]).cuts, (90,))

    def test_wrong_cuts(self):
        wrong = ((0,), (0, 0, 0), (0, 91), (-1, 0), (91, 0), (0, -1), (True, 0), (0, False), ("0", 0), (0, None),
                 ((0,), 0), [[0, 0]], (10 ** 30, 0), 10 ** 30)
        for cuts in wrong + NO_SEQUENCES:
            self.assert_raises_with(BadValue, 4, Race, 2, True, (), cuts)

    def test_first_wrong_argument_is_told(self):
        self.assert_raises_with(BadValue, 1, Race, 0, 1, (1, 0), (91,))
        self.assert_raises_with(BadValue, 1, Race, 5, True, (), (1,))
        self.assert_raises_with(BadValue, 2, Race, 2, 1, (1, 0), (91,))
        self.assert_raises_with(BadValue, 2, Race, 2, None, (), (91,))
        self.assert_raises_with(BadValue, 3, Race, 2, True, (1, 0), (91,))

    def test_any_value_in_any_place(self):
        for value in ANY_VALUES + (nested(40),):
            for at in range(4):
                arguments = [1, True, (0,), (5,)]
                arguments[at] = value
                right = ((1,), (True, False), ((), (0,)), ((), (0,)))[at]
                # To ==, 1 and True are the same.
                if any(told(value) == told(other) for other in right):
                    self.assertEqual(Race(*arguments).runners, 1)
                else:
                    self.assert_raises_with(BadValue, at + 1, Race, *arguments)

    def test_arguments_by_name(self):
        race = Race(runners=2, ties=False, absent=(1,), cuts=(5, 6))
        self.assertEqual((race.runners, race.ties, race.absent, race.cuts), (2, False, (1,), (5, 6)))
        self.assertEqual(Race(2, cuts=(1, 2)).cuts, (1, 2))

    def test_properties_are_plain(self):
        for race in (Race(2), Race(2, False, [0, 1], [1, 2]), Race(2, True, (0, 1), (1, 2))):
            self.assertIs(type(race.runners), int)
            self.assertIs(type(race.ties), bool)
            self.assertIs(type(race.absent), tuple)
            self.assertIs(type(race.cuts), tuple)
            self.assert_plain((race.absent, race.cuts))

    def test_lists_are_copied(self):
        absent, cuts = [0, 2], [1, 2, 3]
        race = Race(3, True, absent, cuts)
        self.assertEqual((absent, cuts), ([0, 2], [1, 2, 3]))
        before = outcomes(race)
        absent.append(5)
        absent[0] = 1
        cuts.clear()
        self.assertEqual((race.absent, race.cuts), ((0, 2), (1, 2, 3)))
        self.assertEqual(outcomes(race), before)

    def test_equal(self):
        self.assertTrue(Race(3, False, (1,), (1, 2, 3)) == Race(3, False, [1], [1, 2, 3]))
        self.assertFalse(Race(3, False, (1,), (1, 2, 3)) != Race(3, False, [1], [1, 2, 3]))
        self.assertTrue(Race(2) == Race(2, True, (), (0, 0)))

    def test_not_equal_if_one_property_differs(self):
        race = Race(3, True, (1,), (1, 2, 3))
        others = (Race(4, True, (1,), (1, 2, 3, 0)), Race(3, False, (1,), (1, 2, 3)), Race(3, True, (), (1, 2, 3)),
                  Race(3, True, (1, 2), (1, 2, 3)), Race(3, True, (1,), (1, 2, 4)), Race(3, True, (1,)))
        for other in others:
            self.assertFalse(race == other)
            self.assertTrue(race != other)
        self.assertNotEqual(Race(1), Race(2))

    def test_not_equal_to_what_is_no_race(self):
        for value in ANY_VALUES + ((2, True, (), (0, 0)), [2, True, [], [0, 0]], 2):
            self.assertFalse(Race(2) == value)
            self.assertFalse(value == Race(2))
            self.assertTrue(Race(2) != value)

    def test_a_race_that_is_none(self):
        for value in NO_RACES + ((2, True, (), (0, 0)), Race):
            self.assert_raises_with(BadValue, 1, outcomes, value)
            self.assert_raises_with(BadValue, 1, is_outcome, value, ((0,),))
            self.assert_raises_with(BadValue, 1, is_bet, value, ("row", (0,)))
            self.assert_raises_with(BadValue, 1, share, value, ("row", (0,)), ((0,),))


class Outcomes(Case):
    def test_as_told(self):
        self.assertEqual(outcomes(Race(1)), (((0,),),))
        self.assertEqual(outcomes(Race(2)), (((0,), (1,)), ((0, 1),), ((1,), (0,))))
        self.assertEqual(outcomes(Race(2, False)), (((0,), (1,)), ((1,), (0,))))
        self.assertEqual(outcomes(Race(2, False, (0,))), (((0,), (1,)), ((1,),), ((1,), (0,))))
        self.assertEqual(outcomes(Race(2, True, (0, 1))),
                         (((0,),), ((0,), (1,)), ((0, 1),), ((1,),), ((1,), (0,))))
        self.assertEqual(outcomes(Race(1, True, (0,))), (((0,),),))

    def test_how_many(self):
        self.assertEqual([len(outcomes(Race(runners))) for runners in (1, 2, 3, 4)], [1, 3, 13, 75])
        self.assertEqual([len(outcomes(Race(runners, False))) for runners in (1, 2, 3, 4)], [1, 2, 6, 24])
        self.assertEqual([len(outcomes(Race(runners, True, list(range(runners))))) for runners in (1, 2, 3, 4)],
                         [1, 5, 25, 149])

    def test_all_in_their_order(self):
        for race in all_races():
            self.assertEqual(outcomes(race), told_outcomes(race.runners, race.ties, race.absent))

    def test_plain_tuples(self):
        for race in (Race(3), Race(3, False, [0, 1], [1, 2, 3])):
            self.assert_plain(outcomes(race))

    def test_argument_by_name(self):
        self.assertEqual(outcomes(race=Race(1)), (((0,),),))

    def test_is_outcome_for_each(self):
        every = {runners: told_outcomes(runners, True, range(runners)) for runners in (1, 2, 3, 4)}
        for race in all_races():
            own = outcomes(race)
            for runners in (1, 2, 3, 4):
                for value in every[runners]:
                    self.assertIs(is_outcome(race, value), value in own)

    def test_lists_in_place_of_tuples(self):
        race = Race(3, True, (1,))
        for value in outcomes(race):
            self.assertIs(is_outcome(race, listed(value)), True)
            self.assertIs(is_outcome(race, tuple(listed(value))), True)
            self.assertIs(is_outcome(race, [tuple(group) for group in value]), True)

    def test_values_that_are_no_outcome(self):
        wrong = ((), ((),), ((0,), (1,), ()), ((), (0,), (1,)), ((1, 0),), ((0, 0), (1,)), ((0,), (0, 1)),
                 ((0,), (1,), (0,)), ((0,), (2,)), ((0,), (-1,)), ((0,), (1,), (2,)), ((0,),), ((1,),), (0, 1),
                 ((0,), 1), ((False,), (True,)), ((0,), (True,)), ((False, 1),), ("0", "1"), (("0",), ("1",)),
                 "01", ((0,), "1"), ((0,), None), (((0,), (1,)),), ((0,), ((1,),)), ((0,), (10 ** 30,)),
                 (((0,),), (1,)), ((None,), (1,)))
        for value in wrong:
            self.assertIs(is_outcome(Race(2), value), False)
            self.assertIs(is_outcome(Race(2), listed(value)), False)
        for value in NO_SEQUENCES + (nested(40), tuple(range(300))):
            self.assertIs(is_outcome(Race(2), value), False)

    def test_no_tie_unless_ties_is_true(self):
        self.assertIs(is_outcome(Race(3, False), ((0, 1), (2,))), False)
        self.assertIs(is_outcome(Race(3, True), ((0, 1), (2,))), True)
        self.assertIs(is_outcome(Race(3, False), ((0,), (1,), (2,))), True)

    def test_nobody_runs(self):
        self.assertIs(is_outcome(Race(1, True, (0,)), ()), False)
        self.assertIs(is_outcome(Race(2, True, (0, 1)), []), False)

    def test_arguments_by_name(self):
        self.assertIs(is_outcome(race=Race(1), value=((0,),)), True)

    def test_argument_is_not_changed(self):
        value = [[0, 1], [2]]
        is_outcome(Race(3), value)
        self.assertEqual(value, [[0, 1], [2]])


class Bets(Case):
    def test_all_bets(self):
        for runners in (1, 2, 3, 4):
            race = Race(runners)
            for bet in all_bets(4):
                right = all(runner < runners for runner in bet[-1])
                self.assertIs(is_bet(race, bet), right)
                self.assertIs(is_bet(race, listed(bet)), right)

    def test_runners_that_may_be_withdrawn(self):
        self.assertIs(is_bet(Race(2, True, (0, 1)), ("top", 1, (0,))), True)

    def test_wrong_words_and_lengths(self):
        wrong = ((), ("top",), ("row",), ("top", 1), ("top", (0,)), ("row", 1, (0,)), ("row", (0,), (1,)),
                 ("row", (0,), 1), ("top", 1, (0,), 1), ("Top", 1, (0,)), ("top ", 1, (0,)), ("win", (0,)),
                 ("ROW", (0,)), (None, (0,)), (1, 1, (0,)), (True, 1, (0,)), (("top",), 1, (0,)), (["row"], (0,)),
                 (["top", 1, (0,)],), ("for", 1, (0,)))
        for value in wrong:
            self.assertIs(is_bet(Race(4), value), False)
            self.assertIs(is_bet(Race(4), list(value)), False)

    def test_wrong_places(self):
        for places in (0, 4, -1, 10 ** 30) + NO_INTEGERS:
            self.assertIs(is_bet(Race(4), ("top", places, (0,))), False)

    def test_wrong_sets(self):
        wrong = ((), (1, 0), (0, 0), (0, 2, 1), (1, 1, 2), (4,), (-1,), (0, 4), (-1, 0), (True,), (0, True), ("0",),
                 (None,), ((0,),), (0, 1, 2, 3), (10 ** 30,), 0, "0", "", None, True, nested(39))
        for chosen in wrong:
            self.assertIs(is_bet(Race(4), ("top", 3, chosen)), False)

    def test_too_many_in_a_set(self):
        self.assertIs(is_bet(Race(4), ("top", 1, (0, 1))), False)
        self.assertIs(is_bet(Race(4), ("top", 2, (0, 1))), True)
        self.assertIs(is_bet(Race(4), ("top", 2, (0, 1, 2))), False)
        self.assertIs(is_bet(Race(4), ("top", 3, (0, 1, 2))), True)

    def test_wrong_sequences(self):
        wrong = ((), (0, 0), (0, 1, 0), (1, 2, 2), (4,), (-1,), (0, 4), (True,), (0, True), ("0",), (None,), ((0,),),
                 (0, 1, 2, 3), (3, 2, 1, 0), (10 ** 30,), 0, "0", "", None, True, nested(39))
        for chosen in wrong:
            self.assertIs(is_bet(Race(4), ("row", chosen)), False)

    def test_any_value(self):
        for value in ANY_VALUES + NO_SEQUENCES + (nested(40),):
            self.assertIs(is_bet(Race(4), value), False)

    def test_arguments_by_name(self):
        self.assertIs(is_bet(race=Race(1), value=("row", (0,))), True)

    def test_argument_is_not_changed(self):
        value = ["row", [2, 0, 1]]
        is_bet(Race(3), value)
        self.assertEqual(value, ["row", [2, 0, 1]])


class Shares(Case):
    def test_as_told(self):
        self.assertEqual(share(Race(2), ("top", 1, (0,)), ((0, 1),)), (1, 2))
        self.assertEqual(share(Race(2), ("top", 1, (0,)), ((0,), (1,))), (1, 1))
        self.assertEqual(share(Race(2), ("top", 1, (0,)), ((1,), (0,))), (0, 1))

    def test_ties(self):
        race = Race(4)
        self.assertEqual(share(race, ("top", 2, (0,)), ((0, 1, 2, 3),)), (1, 2))
        self.assertEqual(share(race, ("top", 2, (0, 1)), ((0, 1, 2, 3),)), (1, 6))
        self.assertEqual(share(race, ("top", 3, (0, 1)), ((0, 1, 2, 3),)), (1, 2))
        self.assertEqual(share(race, ("row", (3, 1)), ((0, 1, 2, 3),)), (1, 12))
        self.assertEqual(share(race, ("row", (3, 1, 0)), ((0, 1, 2, 3),)), (1, 24))
        self.assertEqual(share(race, ("top", 2, (0, 2)), ((0,), (1, 2), (3,))), (1, 2))
        self.assertEqual(share(race, ("row", (0, 2, 1)), ((0,), (1, 2), (3,))), (1, 2))
        self.assertEqual(share(race, ("row", (1, 0)), ((0,), (1, 2), (3,))), (0, 1))

    def test_void(self):
        race = Race(3, True, (0, 1))
        for bet in (("top", 1, (0,)), ("top", 3, (0, 1)), ("row", (0,)), ("row", (2, 0)), ("top", 2, (0, 2))):
            self.assertIsNone(share(race, bet, ((1,), (2,))))
        self.assertEqual(share(race, ("top", 1, (2,)), ((1,), (2,))), (0, 1))

    def test_fewer_run_than_places(self):
        race = Race(3, True, (0, 1))
        self.assertEqual(share(race, ("top", 3, (1, 2)), ((1, 2),)), (1, 1))
        self.assertEqual(share(race, ("top", 3, (2,)), ((1,), (2,))), (1, 1))
        self.assertEqual(share(race, ("top", 2, (2,)), ((2,),)), (1, 1))
        self.assertEqual(share(Race(1), ("top", 3, (0,)), ((0,),)), (1, 1))

    def test_every_share(self):
        for race in (Race(1), Race(2, False, (1,)), Race(3, True, (0, 2)), Race(4, True, (1, 3)),
                     Race(4, True, (0, 1, 2, 3))):
            for outcome in outcomes(race):
                for bet in all_bets(race.runners):
                    expected = told_share(bet, outcome)
                    found = share(race, bet, outcome)
                    if expected is None:
                        self.assertIsNone(found)
                    else:
                        self.assert_fraction(found, expected)

    def test_shares_of_all_sets_and_of_all_sequences_come_to_one(self):
        for race in all_races():
            for outcome in outcomes(race):
                running = sorted(runner for group in outcome for runner in group)
                for places in range(1, min(3, len(running)) + 1):
                    sets = [("top", places, chosen) for chosen in combinations(running, places)]
                    rows = [("row", chosen) for chosen in permutations(running, places)]
                    for bets in (sets, rows):
                        self.assertEqual(sum(Fraction(*share(race, bet, outcome)) for bet in bets), 1)

    def test_lists(self):
        race = Race(3, True, (1,))
        for outcome in outcomes(race):
            for bet in all_bets(3):
                given, come = listed(bet), listed(outcome)
                self.assertEqual(share(race, given, come), share(race, bet, outcome))
                self.assertEqual((given, come), (listed(bet), listed(outcome)))

    def test_errors_in_their_order(self):
        race, bet, outcome = Race(2), ("row", (0,)), ((0,), (1,))
        self.assert_raises_with(BadValue, 1, share, None, "bet", "outcome")
        self.assert_raises_with(BadValue, 2, share, race, "bet", "outcome")
        self.assert_raises_with(BadValue, 2, share, race, ("row", (2,)), ((0,),))
        self.assert_raises_with(BadValue, 3, share, race, bet, "outcome")
        self.assert_raises_with(BadValue, 3, share, race, bet, ((0,),))
        self.assert_raises_with(BadValue, 3, share, Race(2, False), bet, ((0, 1),))
        self.assertEqual(share(race, bet, outcome), (1, 1))

    def test_any_value(self):
        for value in ANY_VALUES + (nested(40),):
            self.assert_raises_with(BadValue, 2, share, Race(3), value, ((0,), (1,), (2,)))
            self.assert_raises_with(BadValue, 3, share, Race(3), ("row", (0,)), value)

    def test_arguments_by_name(self):
        self.assertEqual(share(race=Race(1), bet=("row", (0,)), outcome=((0,),)), (1, 1))


if __name__ == "__main__":
    unittest.main()
