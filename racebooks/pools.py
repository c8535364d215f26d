"""Pools: what is paid of their stakes, and which rows of payments come of some stakes.

A pool is a triple (kept, step, runners). The bound of a runner in a row is a pair (low, high): its payment is that in
the row exactly if its stake is above low times all stakes, and at most high times all stakes.
"""

from racebooks.errors import BadValue, TooMany
from racebooks.kinds import (ONE, ZERO, fraction, is_amount, is_below, is_integer_within, is_sequence, least_of, minus,
                             one_over, plus, times, total)
from racebooks.races import MOST_RUNNERS

MOST_BOTTOM_OF_STEP = 100
MOST_STAKE = 10 ** 9
MOST_IN_ALL = 5000


def payments(pool, stakes):
    """What is paid for a stake of 1 on each runner if it alone wins; None if nothing is staked on it."""
    _need_pool(pool)
    _need_stakes(pool, stakes)
    return tuple([_payment(pool, sum(stakes), stake) for stake in stakes])


def comes(pool, row):
    """Whether the row of payments comes of some stakes, of whatever size."""
    lows, highs = spread(pool, row)
    return is_below(lows, ONE) and not is_below(highs, ONE)


def least_stakes(pool, row):
    """Stakes with the least sum of which the row comes, the least ones of these; None if it comes of none."""
    if not comes(pool, row):
        return None
    bounds = _bounds(pool, row)
    for many in range(1, MOST_IN_ALL + 1):
        limits = [_limits(bound, many) for bound in bounds]
        if _can_come_to(limits, many):
            return _first_stakes(limits, many)
    raise TooMany("stakes")


def spread(pool, row):
    """The sum of the lows and the sum of the highs of the row's payments."""
    _need_pool(pool)
    _need_row(pool, row)
    bounds = [bound for bound in _bounds(pool, row) if bound is not None]
    return (total([low for low, _ in bounds]), total([high for _, high in bounds]))


def pool_gain(pool, stakes, own):
    """What own stakes among the stakes gain, for each runner, if it alone wins."""
    _need_pool(pool)
    _need_stakes(pool, stakes)
    if not _are_own(stakes, own):
        raise BadValue(3)
    lost = (sum(own), 1)
    return tuple([minus(_won(stake, paid), lost) for stake, paid in zip(own, payments(pool, stakes))])


def _need_pool(pool):
    if not is_sequence(pool) or len(pool) != 3:
        raise BadValue(1)
    kept, step, runners = pool
    if not _is_kept(kept) or not _is_step(step) or not is_integer_within(runners, 1, MOST_RUNNERS):
        raise BadValue(1)


def _is_kept(value):
    return is_amount(value) and is_below(value, ONE)


def _is_step(value):
    if not is_amount(value) or value[0] == 0:
        return False
    return not is_below(ONE, value) and value[1] <= MOST_BOTTOM_OF_STEP


def _need_stakes(pool, stakes):
    if not is_sequence(stakes) or len(stakes) != pool[2]:
        raise BadValue(2)
    if not all([is_integer_within(stake, 0, MOST_STAKE) for stake in stakes]) or sum(stakes) == 0:
        raise BadValue(2)


def _are_own(stakes, value):
    if not is_sequence(value) or len(value) != len(stakes):
        return False
    return all([is_integer_within(part, 0, stake) for part, stake in zip(value, stakes)])


def _need_row(pool, row):
    if not is_sequence(row) or len(row) != pool[2]:
        raise BadValue(2)
    told = [paid for paid in row if paid is not None]
    if len(told) == 0 or not all([_is_payment(pool, paid) for paid in told]):
        raise BadValue(2)


def _is_payment(pool, value):
    """Whether value is a multiple of the pool's step."""
    return is_amount(value) and times(value, one_over(pool[1]))[1] == 1


def _returned(pool):
    """The part of all stakes that is paid back."""
    return minus(ONE, pool[0])


def _payment(pool, many, stake):
    """What is paid for a stake of 1 if so many are staked in all, and stake on the winner."""
    if stake == 0:
        return None
    step = pool[1]
    exact = times(_returned(pool), fraction(many, stake))
    steps = times(exact, one_over(step))
    return times((steps[0] // steps[1], 1), step)


def _won(stake, paid):
    return ZERO if paid is None else times((stake, 1), paid)


def _bounds(pool, row):
    """The bounds of the runners; None for those on which nothing is staked."""
    return [None if paid is None else _bound(pool, paid) for paid in row]


def _bound(pool, paid):
    low = times(_returned(pool), one_over(plus(paid, pool[1])))
    if paid[0] == 0:
        return (low, ONE)
    return (low, least_of([ONE, times(_returned(pool), one_over(paid))]))


def _limits(bound, many):
    """The least and the greatest whole stake within the bound if so many are staked in all."""
    if bound is None:
        return (0, 0)
    low, high = bound
    return (low[0] * many // low[1] + 1, high[0] * many // high[1])


def _can_come_to(limits, many):
    """Whether some stakes within the limits come to so many together."""
    if any([most < least for least, most in limits]):
        return False
    return sum([least for least, _ in limits]) <= many <= sum([most for _, most in limits])


def _first_stakes(limits, many):
    """The least tuple of stakes within the limits that come to so many together, which some do."""
    found = []
    left = many
    behind = sum([most for _, most in limits])
    for least, most in limits:
        behind -= most
        stake = max(least, left - behind)
        left -= stake
        found.append(stake)
    return tuple(found)
