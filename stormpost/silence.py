"""Silence: whether a row of ticks shows that a wire left its measure, and which fates did it."""

from stormpost.fates import is_fit
from stormpost.mending import is_readable


def is_told(row, first, last):
    """Whether the row has all places from the first to the last."""
    return first >= 0 and last < len(row)


def is_shown(came, quiet, first, last):
    """Whether the ticks from first to last are quiet many, all told, without a readable cell."""
    if last - first + 1 != quiet or not is_told(came, first, last):
        return False
    return not any([any([is_readable(cell) for cell in cells]) for cells in came[first:last + 1]])


def broken_by(fates, measure, first, last):
    """Whether the cells that could come in these ticks alone are lost + 1 many, all told, none fit."""
    begin = first - 1
    end = last - measure[0]
    if end - begin != measure[1] or not is_told(fates, begin, end):
        return False
    return not any([is_fit(fate) for fate in fates[begin:end + 1]])
