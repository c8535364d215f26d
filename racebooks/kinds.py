"""Kinds of values, and reckoning with fractions, for the other modules.

A fraction is a pair (top, bottom) of integers in lowest terms, bottom above 0.
"""

from math import gcd

ZERO = (0, 1)
ONE = (1, 1)


def is_integer(value):
    # To Python, True and False are integers as well.
    return isinstance(value, int) and not isinstance(value, bool)


def is_integer_within(value, least, most):
    return is_integer(value) and least <= value <= most


def is_sequence(value):
    return isinstance(value, (list, tuple))


def is_fraction(value):
    if not is_sequence(value) or len(value) != 2:
        return False
    top, bottom = value
    if not is_integer(top) or not is_integer(bottom):
        return False
    return bottom > 0 and gcd(top, bottom) == 1


def is_amount(value):
    """Whether value is a fraction of 0 or more."""
    return is_fraction(value) and value[0] >= 0


def are_amounts(value, many):
    """Whether value is a sequence of so many fractions, none below 0."""
    return are_fractions(value, many) and all([part[0] >= 0 for part in value])


def are_fractions(value, many):
    """Whether value is a sequence of so many fractions."""
    if not is_sequence(value) or len(value) != many:
        return False
    return all([is_fraction(part) for part in value])


def fraction(top, bottom):
    """The fraction top / bottom in lowest terms; bottom is above 0."""
    common = gcd(top, bottom)
    return (top // common, bottom // common)


def plus(left, right):
    return fraction(left[0] * right[1] + right[0] * left[1], left[1] * right[1])


def minus(left, right):
    return fraction(left[0] * right[1] - right[0] * left[1], left[1] * right[1])


def times(left, right):
    return fraction(left[0] * right[0], left[1] * right[1])


def one_over(number):
    """1 divided by the number, which is above 0."""
    return (number[1], number[0])


def is_below(left, right):
    return left[0] * right[1] < right[0] * left[1]


def least_of(fractions):
    """The least of the fractions, of which there is at least one."""
    found = fractions[0]
    for part in fractions:
        if is_below(part, found):
            found = part
    return found


def scaled(fractions, factor):
    """The tuple of the fractions, each times the factor."""
    return tuple([times(part, factor) for part in fractions])


def total(fractions):
    """The sum of the fractions, 0 if there are none."""
    reached = ZERO
    for part in fractions:
        reached = plus(reached, part)
    return reached


def total_product(lefts, rights):
    """The sum of the products of what stands at the same places of both."""
    return total([times(left, right) for left, right in zip(lefts, rights)])
