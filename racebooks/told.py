"""Chances of a race under which bets have told chances, or weights which show that there are none."""

from racebooks.errors import BadOffer, BadValue
from racebooks.kinds import (ONE, ZERO, are_fractions, is_amount, is_below, is_sequence, minus, total_product)
from racebooks.offers import are_chances
from racebooks.races import bet_share, is_bet, need_race, outcomes
from racebooks.solving import settled

MOST_QUOTES = 8


def fit(race, quotes):
    """("chances", chances) under which each bet has its told chance in the mean; if there are none,
    ("weights", weights) of the bets whose shares, less the told ones, come to at least 1 in every outcome.
    """
    _need_arguments(race, quotes)
    columns = _excesses(race, quotes)
    # Stakes are never below 0: a weight below 0 is a stake on the opposite.
    opposites = [[minus(ZERO, excess) for excess in column] for column in columns]
    word, found = settled(columns + opposites, len(columns[0]))
    if word == "chances":
        return ("chances", found)
    many = len(columns)
    return ("weights", tuple([minus(stake, other) for stake, other in zip(found[:many], found[many:])]))


def fit_holds(race, quotes, value):
    """Whether value is a pair as fit returns it."""
    _need_arguments(race, quotes)
    if not is_sequence(value) or len(value) != 2:
        return False
    word, found = value
    columns = _excesses(race, quotes)
    if word == "chances":
        return are_chances(race, found) and _are_as_told(columns, found)
    return word == "weights" and are_fractions(found, len(columns)) and _reach_one(columns, found)


def _need_arguments(race, quotes):
    need_race(race, 1)
    if len(race.absent) > 0:
        raise BadValue(1)
    if not is_sequence(quotes) or not 1 <= len(quotes) <= MOST_QUOTES:
        raise BadValue(2)
    for number, quote in enumerate(quotes):
        if not _is_quote(race, quote):
            raise BadOffer(number)


def _is_quote(race, value):
    if not is_sequence(value) or len(value) != 2:
        return False
    bet, chance = value
    return is_bet(race, bet) and is_amount(chance) and not is_below(ONE, chance)


def _excesses(race, quotes):
    """For each quote, by how much the bet's share is above the told chance in each outcome."""
    return [[minus(bet_share(bet, outcome), chance) for outcome in outcomes(race)] for bet, chance in quotes]


def _are_as_told(columns, chances):
    return all([total_product(chances, column) == ZERO for column in columns])


def _reach_one(columns, weights):
    """Whether the columns, times their weights, come to at least 1 together in every outcome."""
    return not any([is_below(total_product(weights, row), ONE) for row in zip(*columns)])
