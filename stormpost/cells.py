"""Cells: lists of 24 signs, sealed where six sums over them are 0."""

from stormpost.errors import BadCell
from stormpost.fields import ROOT, SIGNS, is_sign, power

PLACES = 24
FREE_PLACES = 18
SUMS = 6

# z less the inverse of 5 to the power j, for j from 1 to 6, all multiplied: what
# stands there before z to the powers 5, 4 and so on to 0. Before its sixth is 1.
DIVISOR = (21, 80, 53, 2, 55, 63)


def look_signs(signs, many):
    if len(signs) != many:
        raise BadCell(f"{many} signs are asked for here")
    for sign in signs:
        if not is_sign(sign):
            raise BadCell(f"{sign} is no sign")


def look_cell(cell):
    look_signs(cell, PLACES)


def value_at(signs, point):
    """The sum of the signs, each times the point to the power of its place."""
    value = 0
    for sign in reversed(signs):
        value = (value * point + sign) % SIGNS
    return value


def troubles(cell):
    """The six sums of a cell, as a list."""
    look_cell(cell)
    return [value_at(cell, power(ROOT, j)) for j in range(1, SUMS + 1)]


def is_sealed(cell):
    return troubles(cell) == [0] * SUMS


def carried(rest, sign):
    """The rest by the divisor when one more sign comes behind those that left this rest."""
    times = rest[0] + sign
    return [(low - times * part) % SIGNS for low, part in zip(rest[1:] + [0], DIVISOR)]


def sealed(signs):
    """The one sealed cell that begins with these 18 signs."""
    look_signs(signs, FREE_PLACES)
    # With its first sign before the greatest power of z and its last one before
    # none, a cell comes to 0 at the inverse of 5 to the power j just where its
    # trouble j is 0. So it is sealed where the divisor leaves no rest, and what
    # the 18 signs with six noughts behind them leave is taken from the noughts.
    rest = [0] * SUMS
    for sign in signs:
        rest = carried(rest, sign)
    return list(signs) + [-part % SIGNS for part in rest]


def apart(one, other):
    """At how many places two cells are unlike."""
    look_cell(one)
    look_cell(other)
    return len([place for place in range(PLACES) if one[place] != other[place]])
