"""Reckoning with signs, the numbers from 0 to 96, by rests of 97."""

from stormpost.errors import BadSign

SIGNS = 97
ROOT = 5


def is_sign(number):
    return 0 <= number < SIGNS


def look_sign(number):
    if not is_sign(number):
        raise BadSign(f"{number} is no sign")


def look_unit(number):
    look_sign(number)
    if number == 0:
        raise BadSign("0 has no inverse and is no power of 5")


def power(a, k):
    """The sign a taken k times, k from 0 on; 1 for k = 0, of the sign 0 too."""
    look_sign(a)
    product = 1
    square = a
    left = k
    # An exponent may have sixty figures, so it is halved, not counted down.
    while left > 0:
        if left % 2 == 1:
            product = product * square % SIGNS
        square = square * square % SIGNS
        left = left // 2
    return product


def inverse(a):
    """The sign whose product with a is 1."""
    look_unit(a)
    # 97 is a prime, so a to the power 96 is 1.
    return power(a, SIGNS - 2)


def exponent(a):
    """The number from 0 to 95 by which a is a power of 5."""
    look_unit(a)
    steps = 0
    reached = 1
    # This ends, since the powers of 5 pass through all signs but 0.
    while reached != a:
        reached = reached * ROOT % SIGNS
        steps = steps + 1
    return steps


def equation(row, side):
    """A row and its right side as one new list of signs."""
    return [sign % SIGNS for sign in row] + [side % SIGNS]


def pivot_place(table, column):
    """The first row, from the column's own on, that is not 0 there; None without one."""
    for place in range(column, len(table)):
        if table[place][column] != 0:
            return place
    return None


def exchanged(table, one, other):
    """The table with two of its rows in each other's place."""
    rows = list(table)
    rows[one] = table[other]
    rows[other] = table[one]
    return rows


def lessened(row, head, times):
    """The row less so many times the head."""
    return [(sign - times * top) % SIGNS for sign, top in zip(row, head)]


def cleared(table, column):
    """The table with 1 in the column's own row and 0 in all others of that column."""
    factor = inverse(table[column][column])
    head = [sign * factor % SIGNS for sign in table[column]]
    rows = [lessened(row, head, row[column]) for row in table]
    rows[column] = head
    return rows


def solved(rows, right):
    """The unknowns of n equations as a list; None where there isn't one answer."""
    table = [equation(row, side) for row, side in zip(rows, right)]
    for column in range(len(table)):
        place = pivot_place(table, column)
        if place is None:
            return None
        table = cleared(exchanged(table, column, place), column)
    return [row[-1] for row in table]
