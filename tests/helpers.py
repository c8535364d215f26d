"""What the tests share: wrong values, a second reckoning of shares and gains, and checks of errors."""

import unittest
from fractions import Fraction
from itertools import combinations, permutations

from racebooks.races import Race

# No Race among them: one stands only where a race is told.
ANY_VALUES = (
    None, True, False, 0, 1, -1, 10 ** 30, -10 ** 30, "", "top", "race", "01", (), [], (0,), [0], (None,),
    (1, 2), [1, 2], ((),), [[]], ((0,), (1,), ()), ("top",), ("top", 1), ("row",), ("row", ()), ("for", "against"),
    (((((0,),),),),), (True, False), ((True,),), ("top", 1, (0,), (1, 1), "for"), tuple(range(300)))


def nested(levels):
    value = ()
    for _ in range(levels):
        value = (value,)
    return value


NO_SEQUENCES = (None, True, False, 0, 1, "", "0", "top")
NO_INTEGERS = (None, True, False, "", "1", (), (1,), [1], [[]])
NO_RACES = ANY_VALUES + (nested(40),)
# None of these is a fraction: for want of kind, form, lowest terms, or a bottom above 0.
NO_FRACTIONS = (
    None, True, 1, 0, "1/2", "12", (), (1,), (1, 2, 3), (2, 4), (0, 2), (3, 3), (0, 0), (1, 0), (1, -2), (-1, -2),
    (0, -1), (True, 2), (1, True), (None, 1), (1, None), ("1", "2"), ((1, 2), 1), (1, (2,)), [6, 4])


def all_races(most=4):
    """Races of every size, with and without ties, with several choices of who may be withdrawn."""
    for runners in range(1, most + 1):
        for ties in (True, False):
            for many in range(runners + 1):
                for absent in combinations(range(runners), many):
                    yield Race(runners, ties, absent, tuple(7 + 20 * k for k in range(runners)))


def all_bets(runners):
    bets = []
    for places in (1, 2, 3):
        for many in range(1, places + 1):
            bets.extend(("top", places, chosen) for chosen in combinations(range(runners), many))
        bets.extend(("row", chosen) for chosen in permutations(range(runners), places))
    return bets


def told_outcomes(runners, ties, absent):
    """All outcomes, found by ranking: each runner is given the number of its group, or none."""
    found = set()

    def place(ranks):
        if len(ranks) == runners:
            numbers = sorted(set(ranks) - {None})
            groups = tuple(tuple(k for k in range(runners) if ranks[k] == number) for number in numbers)
            if groups and (ties or all(len(group) == 1 for group in groups)):
                found.add(groups)
            return
        for number in range(runners):
            place(ranks + [number])
        if len(ranks) in absent:
            place(ranks + [None])

    place([])
    return tuple(sorted(found))


def told_share(bet, outcome):
    """The share as a Fraction, or None: by counting the permutations that keep the groups' order."""
    group_of = {runner: number for number, group in enumerate(outcome) for runner in group}
    if any(runner not in group_of for runner in bet[-1]):
        return None
    ways = [way for way in permutations(group_of) if [group_of[k] for k in way] == sorted(group_of.values())]
    if bet[0] == "top":
        right = [way for way in ways if set(bet[2]) <= set(way[:bet[1]])]
    else:
        right = [way for way in ways if list(way[:len(bet[1])]) == list(bet[1])]
    return Fraction(len(right), len(ways))


def told_gain(race, offer, outcome):
    bet, odds, side = offer
    right = told_share(bet, outcome)
    if right is None:
        return Fraction(0)
    running = [runner for group in outcome for runner in group]
    cut = min(90, sum(race.cuts[k] for k in range(race.runners) if k not in running))
    worth = right * Fraction(*odds) * Fraction(100 - cut, 100) - (1 - right)
    return worth if side == "for" else -worth


def pair(number):
    return (number.numerator, number.denominator)


def listed(value):
    """The same value with lists in place of tuples, at every level."""
    return [listed(part) for part in value] if isinstance(value, (tuple, list)) else value


class Case(unittest.TestCase):
    def assert_raises_with(self, kind, argument, function, *args, **more):
        with self.assertRaises(kind) as caught:
            function(*args, **more)
        self.assertIs(type(caught.exception), kind)
        kept = [getattr(caught.exception, name) for name in ("at", "word") if hasattr(caught.exception, name)]
        self.assertEqual(kept, [argument])

    def assert_plain(self, value):
        """Only integers, None and plain tuples, at every level."""
        if value is not None and type(value) is not int:
            self.assertIs(type(value), tuple)
            for part in value:
                self.assert_plain(part)

    def assert_fraction(self, value, number):
        self.assert_plain(value)
        self.assertEqual(value, pair(number))
