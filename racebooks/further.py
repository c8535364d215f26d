"""Odds of a further bet above which, or below which, a sure gain arises beside offers."""

from racebooks.checking import are_barring
from racebooks.errors import BadValue
from racebooks.kinds import (ONE, ZERO, is_amount, is_below, is_sequence, minus, one_over, plus, scaled, total,
                             total_product)
from racebooks.offers import are_stakes, book_gains, need_offers, offer_gains, paid_share
from racebooks.races import bet_share, is_bet, need_race, outcomes
from racebooks.solving import greatest, settled

MOST_OFFERS_BESIDE = 7


def top_odds(race, offers, bet):
    """The odds above which the bet "for" leaves a sure gain beside the offers, with what shows them."""
    _need_arguments(race, offers, bet)
    columns = [offer_gains(race, offer) for offer in offers]
    shares, paid, lost = _bet_columns(race, bet)
    word, found = settled(columns, len(shares))
    if word == "stakes":
        return ("sure", found)
    # Chances that bar a gain of the share as well give the bet no chance to be right: no odds help then.
    word, shown = settled(columns + [shares], len(shares))
    if word == "chances":
        return (None, shown)
    odds, amounts, stakes = _greatest_barred(columns, paid, lost)
    # At odds 0 all chances will do that bar the offers: under none of them can the bet be lost.
    chances = found if odds == ZERO else _in_proportion(amounts)
    return (odds, (chances, stakes, shown[-1], shown[:-1]))


def top_holds(race, offers, bet, odds, proof):
    """Whether these are the odds of top_odds, and proof shows it."""
    _need_arguments(race, offers, bet)
    shares = _bet_columns(race, bet)[0]
    if odds is None:
        return are_barring(race, offers, proof) and total_product(proof, shares) == ZERO
    if not is_amount(odds) or not _is_quadruple(proof):
        return False
    chances, stakes, weight, more = proof
    beside = offer_gains(race, (bet, odds, "for"))
    if not _bar_at(race, offers, chances, beside) or not _reach(race, offers, stakes, beside, ZERO):
        return False
    return _reach_one(race, offers, weight, more, shares)


def low_odds(race, offers, bet):
    """The odds below which the bet "against" leaves a sure gain beside the offers, with what shows them."""
    _need_arguments(race, offers, bet)
    columns = [offer_gains(race, offer) for offer in offers]
    shares, paid, lost = _bet_columns(race, bet)
    word, found = settled(columns, len(shares))
    if word == "stakes":
        return ("sure", found)
    # At odds 0 the bet "against" gains what is lost "for": if that is barred as well, no odds leave a gain.
    word, shown = settled(columns + [lost], len(shares))
    if word == "chances":
        return (ZERO, (shown, (ZERO,) * len(columns), None, None))
    worth, amounts, stakes = _greatest_barred(columns, lost, paid)
    if worth == ZERO:
        return (None, (found, stakes, shown[-1], shown[:-1]))
    odds = one_over(worth)
    return (odds, (_in_proportion(amounts), scaled(stakes, odds), shown[-1], shown[:-1]))


def low_holds(race, offers, bet, odds, proof):
    """Whether these are the odds of low_odds, and proof shows it."""
    _need_arguments(race, offers, bet)
    if not _is_quadruple(proof):
        return False
    if odds is None:
        return _is_no_low(race, offers, bet, proof)
    return is_amount(odds) and _is_low(race, offers, bet, odds, proof)


def _is_no_low(race, offers, bet, proof):
    """As low_holds, for odds None and a quadruple."""
    chances, stakes, weight, more = proof
    _, paid, lost = _bet_columns(race, bet)
    if not are_barring(race, offers, chances):
        return False
    owed = [minus(ZERO, part) for part in paid]
    return _reach(race, offers, stakes, owed, ZERO) and _reach_one(race, offers, weight, more, lost)


def _is_low(race, offers, bet, odds, proof):
    """As low_holds, for odds of 0 or more and a quadruple."""
    chances, stakes, weight, more = proof
    beside = offer_gains(race, (bet, odds, "against"))
    if not _bar_at(race, offers, chances, beside) or not _reach(race, offers, stakes, beside, ZERO):
        return False
    if odds[0] == 0:
        return weight is None and more is None
    shares, _, lost = _bet_columns(race, bet)
    valid = [plus(share, part) for share, part in zip(shares, lost)]
    return _reach_one(race, offers, weight, more, valid)


def _need_arguments(race, offers, bet):
    need_race(race, 1)
    need_offers(race, offers, 2, 0, MOST_OFFERS_BESIDE)
    if not is_bet(race, bet):
        raise BadValue(3)


def _bet_columns(race, bet):
    """For each outcome: the bet's share; what is left of it after the cuts; what is lost, 1 less the share.

    All are 0 where the bet is void. At odds u the bet "for" gains u times the second, less the third.
    """
    rows = []
    for outcome in outcomes(race):
        share = bet_share(bet, outcome)
        if share is None:
            rows.append((ZERO, ZERO, ZERO))
        else:
            rows.append((share, paid_share(race, share, outcome), minus(ONE, share)))
    return [[row[place] for row in rows] for place in range(3)]


def _greatest_barred(columns, bound, worth):
    """The greatest sum of worth times amounts under which no column gains, the sum of bound times them being at
    most 1; such amounts, for each outcome; and stakes on the columns whose gains, together with that greatest
    sum times bound, come to at least worth in every outcome.
    """
    reached, amounts, prices = greatest([bound] + columns, [ONE] + [ZERO] * len(columns), worth)
    return (reached, amounts, prices[1:])


def _in_proportion(amounts):
    """Chances in proportion to the amounts, which are not all 0."""
    return scaled(amounts, one_over(total(amounts)))


def _is_quadruple(value):
    return is_sequence(value) and len(value) == 4


def _bar_at(race, offers, chances, beside):
    """Whether these are chances that bar the offers, and what stands beside gains 0 in the mean under them."""
    return are_barring(race, offers, chances) and total_product(chances, beside) == ZERO


def _reach(race, offers, stakes, beside, least):
    """Whether these are stakes for the offers that, with what stands beside, gain at least so much everywhere."""
    if not are_stakes(offers, stakes):
        return False
    together = [plus(gained, part) for gained, part in zip(book_gains(race, offers, stakes), beside)]
    return not any([is_below(part, least) for part in together])


def _reach_one(race, offers, weight, more, shares):
    """Whether weight times the shares, with the gains of the stakes more, come to at least 1 in every outcome."""
    return is_amount(weight) and _reach(race, offers, more, scaled(shares, weight), ONE)
