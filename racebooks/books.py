"""Sure gains of books, or chances that bar them."""

from racebooks.offers import need_offers, offer_gains
from racebooks.races import need_race, outcomes
from racebooks.solving import game, settled


def sure(race, offers):
    """("stakes", stakes) that gain at least 1 in every outcome; if there are none, ("chances", chances) under
    which no offer gains in the mean.
    """
    need_race(race, 1)
    need_offers(race, offers, 2)
    return settled([offer_gains(race, offer) for offer in offers], len(outcomes(race)))


def surest(race, offers):
    """The greatest value that stakes of 1 in all gain at least in every outcome, such stakes, and chances under
    which no offer gains more in the mean.
    """
    need_race(race, 1)
    need_offers(race, offers, 2)
    return game([offer_gains(race, offer) for offer in offers])
