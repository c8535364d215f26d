"""A second reckoning of what proves a sure gain, what bars it, and odds; and drawn races, offers and bends.

It shares nothing with the package but Race and outcomes, which have tests of their own.
"""

from fractions import Fraction
from functools import lru_cache
from math import gcd

from racebooks.races import outcomes
from tests.helpers import all_bets, pair, told_share

FEW_ODDS = ((1, 1), (2, 1), (1, 2), (3, 2), (2, 3), (3, 1), (1000, 1), (1, 1000), (999, 1000), (7, 5))


@lru_cache(maxsize=None)
def share_of(bet, outcome):
    return told_share(bet, outcome)


def tupled(value):
    return tuple(tupled(part) for part in value) if isinstance(value, (tuple, list)) else value


def gain_in(race, offer, outcome):
    bet, odds, side = tupled(offer)
    right = share_of(bet, outcome)
    if right is None:
        return Fraction(0)
    worth = right * Fraction(*odds) * kept_in(race, outcome) - (1 - right)
    return worth if side == "for" else -worth


def kept_in(race, outcome):
    running = [runner for group in outcome for runner in group]
    return Fraction(100 - min(90, sum(race.cuts[k] for k in range(race.runners) if k not in running)), 100)


def number_of(value):
    """The Fraction that the value is, or None."""
    if not isinstance(value, (tuple, list)) or [type(part) for part in value] != [int, int]:
        return None
    return Fraction(*value) if value[1] > 0 and gcd(*value) == 1 else None


def amounts_of(value, many):
    """The list of so many Fractions, none below 0, that the value is, or None."""
    if not isinstance(value, (tuple, list)) or len(value) != many:
        return None
    found = [number_of(part) for part in value]
    return None if any(part is None or part < 0 for part in found) else found


def chances_of(race, value):
    found = amounts_of(value, len(outcomes(race)))
    return found if found is not None and sum(found) == 1 else None


def rows_of(race, offers):
    """For each outcome, the gains of the offers."""
    return [[gain_in(race, offer, outcome) for offer in offers] for outcome in outcomes(race)]


def gain_of(stakes, row):
    return sum((stake * gain for stake, gain in zip(stakes, row, strict=True)), Fraction(0))


def means_of(chances, rows):
    return [sum(chance * gain for chance, gain in zip(chances, column, strict=True)) for column in zip(*rows)]


def told_gain_holds(race, offers, value):
    stakes = amounts_of(value, len(offers))
    return stakes is not None and all(gain_of(stakes, row) >= 1 for row in rows_of(race, offers))


def told_chances_hold(race, offers, value):
    chances = chances_of(race, value)
    return chances is not None and all(mean <= 0 for mean in means_of(chances, rows_of(race, offers)))


def told_surest_holds(race, offers, value):
    if not isinstance(value, (tuple, list)) or len(value) != 3:
        return False
    reached, stakes = number_of(value[0]), amounts_of(value[1], len(offers))
    chances = chances_of(race, value[2])
    if reached is None or stakes is None or chances is None or sum(stakes) != 1:
        return False
    rows = rows_of(race, offers)
    return all(gain_of(stakes, row) >= reached for row in rows) and max(means_of(chances, rows)) <= reached


def told_top_holds(race, offers, bet, odds, proof):
    shares = [share_of(tupled(bet), outcome) for outcome in outcomes(race)]
    if odds is None:
        return told_chances_hold(race, offers, proof) and all(
            chance[0] == 0 or share in (0, None) for chance, share in zip(proof, shares, strict=True))
    if number_of(odds) is None or number_of(odds) < 0 or not is_bound_at(race, offers, (bet, odds, "for"), proof):
        return False
    return is_backed(race, offers, proof, [share or 0 for share in shares])


def told_low_holds(race, offers, bet, odds, proof):
    shares = [share_of(tupled(bet), outcome) for outcome in outcomes(race)]
    if odds is None:
        if not isinstance(proof, (tuple, list)) or len(proof) != 4 or amounts_of(proof[1], len(offers)) is None:
            return False
        paid = [(share or 0) * kept_in(race, outcome) for share, outcome in zip(shares, outcomes(race))]
        stakes = amounts_of(proof[1], len(offers))
        if not all(gain_of(stakes, row) >= least for row, least in zip(rows_of(race, offers), paid, strict=True)):
            return False
        losses = [0 if share is None else 1 - share for share in shares]
        return told_chances_hold(race, offers, proof[0]) and is_backed(race, offers, proof, losses)
    if number_of(odds) is None or number_of(odds) < 0 or not is_bound_at(race, offers, (bet, odds, "against"), proof):
        return False
    if number_of(odds) == 0:
        return proof[2] is None and proof[3] is None
    return is_backed(race, offers, proof, [0 if share is None else 1 for share in shares])


def is_bound_at(race, offers, further, proof):
    """Whether the chances of the proof bar the offers and give the further one 0; and its stakes bound it."""
    if not isinstance(proof, (tuple, list)) or len(proof) != 4 or not told_chances_hold(race, offers, proof[0]):
        return False
    stakes, beside = amounts_of(proof[1], len(offers)), [row[0] for row in rows_of(race, (further,))]
    if stakes is None or gain_of(chances_of(race, proof[0]), beside) != 0:
        return False
    rows = rows_of(race, offers)
    return all(gain_of(stakes, row) + gain >= 0 for row, gain in zip(rows, beside, strict=True))


def is_backed(race, offers, proof, shares):
    weight, more = number_of(proof[2]), amounts_of(proof[3], len(offers))
    if weight is None or weight < 0 or more is None:
        return False
    rows = rows_of(race, offers)
    return all(weight * share + gain_of(more, row) >= 1 for row, share in zip(rows, shares, strict=True))


def offer_odds(number):
    """The number as odds of an offer, or None if it is none."""
    return pair(number) if 0 < number <= 1000 and max(pair(number)) <= 1000 else None


def next_above(number):
    """The least odds of an offer that are above the number, or None."""
    found = [Fraction(number * bottom // 1 + 1) / bottom for bottom in range(1, 1001)]
    return min((odds for odds in found if offer_odds(odds)), default=None)


def next_below(number):
    """The greatest odds of an offer that are below the number, or None."""
    found = [Fraction(-(-number * bottom // 1) - 1) / bottom for bottom in range(1, 1001)]
    return max((odds for odds in found if offer_odds(odds)), default=None)


def drawn_race(draw, race_of, most=4):
    runners = draw.randint(1, most)
    absent = [runner for runner in range(runners) if draw.random() < 0.3]
    cuts = draw.choice(((), [draw.randint(0, 90) for _ in range(runners)]))
    return race_of(runners, draw.random() < 0.6, absent, cuts)


def drawn_bet(draw, race):
    return draw.choice([bet for bet in all_bets(4) if all(runner < race.runners for runner in bet[-1])])


def drawn_odds(draw):
    """Often the same few, so that best stakes and chances are often not unique."""
    if draw.random() < 0.6:
        return draw.choice(FEW_ODDS)
    return pair(Fraction(draw.randint(1, 1000), draw.randint(1, 1000)))


def drawn_offers(draw, race, many):
    """Among them some that are the same as, or the opposite of, an earlier one."""
    offers = []
    for _ in range(many):
        offer = (drawn_bet(draw, race), drawn_odds(draw), draw.choice(("for", "against")))
        if offers and draw.random() < 0.2:
            offer = draw.choice(offers)
        if offers and draw.random() < 0.2:
            bet, odds, side = draw.choice(offers)
            offer = (bet, odds, "against" if side == "for" else "for")
        offers.append(offer)
    return tuple(offers)


def drawn_chances(draw, many):
    """So many chances, of few parts and often 0."""
    parts = [draw.choice((0, 0, 1, 1, 2, 3)) for _ in range(many)]
    parts[draw.randrange(many)] += 1
    return [Fraction(part, sum(parts)) for part in parts]


def fair_offers(draw, race, many):
    """Offers of which none gains in the mean under drawn chances; and those chances."""
    come = outcomes(race)
    chances = drawn_chances(draw, len(come))
    offers = []
    for _ in range(200):
        if len(offers) == many:
            break
        bet = drawn_bet(draw, race)
        paid = sum(chance * (share_of(bet, outcome) or 0) * kept_in(race, outcome)
                   for chance, outcome in zip(chances, come))
        lost = sum(chance * (1 - share_of(bet, outcome)) for chance, outcome in zip(chances, come)
                   if share_of(bet, outcome) is not None)
        side = draw.choice(("for", "against"))
        odds = fair_odds(paid, lost, side)
        if odds is not None:
            offers.append((bet, pair(odds), side))
    return tuple(offers), tuple(pair(chance) for chance in chances)


def fair_odds(paid, lost, side):
    """Odds of an offer at which it gains 0 in the mean, or just less, or None."""
    if side == "for" and paid == 0:
        return Fraction(1000)
    if side == "against" and lost == 0:
        return Fraction(1, 1000)
    if paid == 0:
        return None
    if offer_odds(lost / paid):
        return lost / paid
    return next_below(lost / paid) if side == "for" else next_above(lost / paid)


def places_of(value):
    """The ways to all that the value holds, as tuples of indexes; () is the value itself."""
    found = [()]
    if isinstance(value, (tuple, list)):
        for at, part in enumerate(value):
            found.extend((at,) + way for way in places_of(part))
    return found


def replaced(value, way, part):
    """The value with another part at the end of the way."""
    if not way:
        return part
    return value[:way[0]] + (replaced(value[way[0]], way[1:], part),) + value[way[0] + 1:]


def part_at(value, way):
    for at in way:
        value = value[at]
    return value


def bent(draw, value):
    """The value with one part of it, at whatever level, changed somehow."""
    way = draw.choice(places_of(value))
    old = part_at(value, way)
    others = [None, (), (0, 1), (1, 1), (-1, 2), 1, True, "sure"]
    if isinstance(old, int):
        others = [old + 1, old - 1, -old, 2 * old, 0, True, None, str(old)]
    if isinstance(old, tuple) and old:
        at, other = draw.randrange(len(old)), draw.randrange(len(old))
        exchanged = list(old)
        exchanged[at], exchanged[other] = exchanged[other], exchanged[at]
        others += [tuple(exchanged), old[:-1], old[1:], old + old[-1:], old[::-1]]
    if number_of(old) is not None:
        number = Fraction(*old)
        others += [pair(number * factor) for factor in (0, Fraction(1, 2), Fraction(99, 100), Fraction(101, 100), 2)]
        others += [pair(number + step) for step in (-1, Fraction(-1, 10 ** 9), Fraction(1, 10 ** 9), 1)]
        others.append((old[0] * 2, old[1] * 2))
    return replaced(value, way, draw.choice(others))


def told_fit_holds(race, quotes, value):
    if not isinstance(value, (tuple, list)) or len(value) != 2 or value[0] not in ("chances", "weights"):
        return False
    rows = excesses_of(race, quotes)
    if value[0] == "chances":
        chances = chances_of(race, value[1])
        return chances is not None and all(mean == 0 for mean in means_of(chances, rows))
    if not isinstance(value[1], (tuple, list)) or len(value[1]) != len(quotes):
        return False
    weights = [number_of(part) for part in value[1]]
    return None not in weights and all(gain_of(weights, row) >= 1 for row in rows)


def excesses_of(race, quotes):
    """For each outcome, by how much the shares of the quotes are above the told chances."""
    return [[share_of(tupled(bet), outcome) - Fraction(*chance) for bet, chance in quotes]
            for outcome in outcomes(race)]


def drawn_quotes(draw, race, many):
    """Quotes with any chances from 0 to 1, often the same few."""
    few = ((0, 1), (1, 1), (1, 2), (1, 3), (2, 3), (1, 10 ** 30))
    quotes = []
    for _ in range(many):
        bottom = draw.randint(1, 60)
        any_chance = pair(Fraction(draw.randint(0, bottom), bottom))
        quotes.append((drawn_bet(draw, race), draw.choice(few) if draw.random() < 0.4 else any_chance))
    return tuple(quotes)


def fitting_quotes(draw, race, many):
    """Quotes that drawn chances have, and those chances."""
    come = outcomes(race)
    chances = drawn_chances(draw, len(come))
    quotes = []
    for _ in range(many):
        bet = drawn_bet(draw, race)
        told = sum(chance * share_of(bet, outcome) for chance, outcome in zip(chances, come, strict=True))
        quotes.append((bet, pair(told)))
    return tuple(quotes), tuple(pair(chance) for chance in chances)
