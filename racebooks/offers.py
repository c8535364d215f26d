"""Offers of bets, what stakes on them gain, and what they gain in the mean."""

from racebooks.errors import BadOffer, BadValue
from racebooks.kinds import (ONE, ZERO, are_amounts, fraction, is_fraction, is_sequence, minus, times, total,
                             total_product)
from racebooks.races import bet_share, is_bet, is_outcome, need_race, outcomes, running_in

MOST_OFFERS = 8
MOST_ODDS = 1000
MOST_CUT_TOGETHER = 90


def gain(race, offer, outcome):
    """What a stake of 1 on the offer gains in the outcome."""
    need_race(race, 1)
    if not is_offer(race, offer):
        raise BadValue(2)
    if not is_outcome(race, outcome):
        raise BadValue(3)
    return offer_gain(race, offer, outcome)


def gains(race, offers, stakes):
    """What the stakes gain together, for each outcome."""
    need_race(race, 1)
    need_offers(race, offers, 2)
    if not are_stakes(offers, stakes):
        raise BadValue(3)
    return book_gains(race, offers, stakes)


def mean(race, offer, chances):
    """What the offer gains in the mean under the chances."""
    need_race(race, 1)
    if not is_offer(race, offer):
        raise BadValue(2)
    if not are_chances(race, chances):
        raise BadValue(3)
    return offer_mean(race, offer, chances)


def is_offer(race, value):
    if not is_sequence(value) or len(value) != 3:
        return False
    bet, odds, side = value
    return is_bet(race, bet) and _are_odds(odds) and side in ("for", "against")


def need_offers(race, offers, at, least=1, most=MOST_OFFERS):
    if not is_sequence(offers) or not least <= len(offers) <= most:
        raise BadValue(at)
    for number, offer in enumerate(offers):
        if not is_offer(race, offer):
            raise BadOffer(number)


def are_stakes(offers, value):
    return are_amounts(value, len(offers))


def are_chances(race, value):
    return are_amounts(value, len(outcomes(race))) and total(value) == ONE


def cut_in(race, outcome):
    """How many hundredths of all winnings are cut for those who are withdrawn."""
    running = running_in(outcome)
    cuts = [race.cuts[runner] for runner in range(race.runners) if runner not in running]
    return min(MOST_CUT_TOGETHER, sum(cuts))


def offer_gain(race, offer, outcome):
    """As gain, for an offer and an outcome that are known to be of the race."""
    bet, odds, side = offer
    right = bet_share(bet, outcome)
    if right is None:
        return ZERO
    worth = minus(times(paid_share(race, right, outcome), odds), minus(ONE, right))
    return worth if side == "for" else minus(ZERO, worth)


def paid_share(race, right, outcome):
    """What is left of a share after the cuts of the outcome."""
    return times(right, fraction(100 - cut_in(race, outcome), 100))


def offer_gains(race, offer):
    """What the offer, which is known to be of the race, gains in each outcome."""
    return [offer_gain(race, offer, outcome) for outcome in outcomes(race)]


def offer_mean(race, offer, chances):
    """As mean, for an offer and chances that are known to be of the race."""
    return total_product(chances, offer_gains(race, offer))


def book_gains(race, offers, stakes):
    """As gains, for offers and stakes that are known to be as told; there may be no offers."""
    return tuple([_book_gain(race, offers, stakes, outcome) for outcome in outcomes(race)])


def _are_odds(value):
    if not is_fraction(value):
        return False
    return 0 < value[0] <= MOST_ODDS and value[1] <= MOST_ODDS


def _book_gain(race, offers, stakes, outcome):
    return total_product(stakes, [offer_gain(race, offer, outcome) for offer in offers])
