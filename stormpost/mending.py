"""Mending: finding the sealed cell that a cell is unlike at two places at most."""

from stormpost.cells import PLACES, SUMS, is_sealed, troubles
from stormpost.fields import ROOT, SIGNS, exponent, inverse, power, solved


def lone_place(sums):
    """A list with the one place whose turning may leave such sums; without one, an empty list."""
    # A sign turned at place i leaves sums of which each is 5 to the power i
    # times the one ahead of it, and none is 0.
    if sums[0] == 0 or sums[1] == 0:
        return []
    place = exponent(sums[1] * inverse(sums[0]) % SIGNS)
    return [place] if place < PLACES else []


def is_root(point, total, product):
    """Whether the point is one of the two that have this sum and this product."""
    return (point * point - total * point + product) % SIGNS == 0


def turned_places(sums):
    """The places, two at most, that were turned if no more than two were."""
    # With signs turned at two places, and x and y being 5 to their powers, each
    # sum is x + y times the one ahead of it less x * y times the one ahead of
    # that. This has one answer there, but not with one sign turned.
    rows = [[sums[1], -sums[0] % SIGNS], [sums[2], -sums[1] % SIGNS]]
    pair = solved(rows, [sums[2], sums[3]])
    if pair is None:
        return lone_place(sums)
    return [place for place in range(PLACES) if is_root(power(ROOT, place), pair[0], pair[1])]


def turns_at(places, sums):
    """What was added at each of these places, by as many of the sums as there are places."""
    rows = [[power(ROOT, place * j) for place in places] for j in range(1, len(places) + 1)]
    return solved(rows, sums[:len(places)])


def mended(cell):
    """The sealed cell that is unlike this one at two places at most, or None."""
    sums = troubles(cell)
    # Most cells come as they were given: for these nothing is searched.
    if sums == [0] * SUMS:
        return list(cell)
    places = turned_places(sums)
    found = list(cell)
    for place, turn in zip(places, turns_at(places, sums)):
        found[place] = (found[place] - turn) % SIGNS
    # The places and turns were told by some of the sums alone, and where more
    # signs were turned the other sums need not agree.
    return found if is_sealed(found) else None


def is_readable(cell):
    return mended(cell) is not None
