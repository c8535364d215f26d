"""Whether stakes gain, whether chances bar that any do, and whether a value is the surest, without a search."""

from racebooks.kinds import ONE, ZERO, is_below, is_fraction, is_sequence, total
from racebooks.offers import are_chances, are_stakes, book_gains, need_offers, offer_mean
from racebooks.races import need_race


def gain_holds(race, offers, stakes):
    """Whether these are stakes for the offers that gain at least 1 in every outcome."""
    need_race(race, 1)
    need_offers(race, offers, 2)
    return are_stakes(offers, stakes) and gain_at_least(race, offers, stakes, ONE)


def chances_hold(race, offers, chances):
    """Whether these are chances of the race under which no offer gains in the mean."""
    need_race(race, 1)
    need_offers(race, offers, 2)
    return are_barring(race, offers, chances)


def surest_holds(race, offers, value):
    """Whether value tells the greatest sure gain of stakes of 1 in all, with stakes and chances that show it."""
    need_race(race, 1)
    need_offers(race, offers, 2)
    if not is_sequence(value) or len(value) != 3:
        return False
    reached, stakes, chances = value
    if not is_fraction(reached) or not are_stakes(offers, stakes) or not are_chances(race, chances):
        return False
    if total(stakes) != ONE or not gain_at_least(race, offers, stakes, reached):
        return False
    return _mean_at_most(race, offers, chances, reached)


def gain_at_least(race, offers, stakes, least):
    """Whether the stakes gain at least so much in every outcome."""
    return not any([is_below(gained, least) for gained in book_gains(race, offers, stakes)])


def are_barring(race, offers, chances):
    """Whether these are chances of the race under which no offer gains in the mean; there may be no offers."""
    return are_chances(race, chances) and _mean_at_most(race, offers, chances, ZERO)


def _mean_at_most(race, offers, chances, most):
    return not any([is_below(most, offer_mean(race, offer, chances)) for offer in offers])
