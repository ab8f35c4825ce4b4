"""What several tests reckon with, apart from the program."""

import itertools

FAR = 10 ** 59
NO_SIGNS = (-1, 97, -96, -97, 98, 194, FAR, -FAR)
POWERS = [[5 ** (i * j) % 97 for i in range(24)] for j in range(1, 7)]


def stream_of_signs(seed):
    while True:
        seed = (seed * 1103515245 + 12345) % 2 ** 31
        yield (seed >> 8) % 97


def taken(signs, many):
    return list(itertools.islice(signs, many))


def picked(signs, many, count):
    """Rising places, so many, of the numbers below count."""
    left = list(range(count))
    return sorted(left.pop((97 * next(signs) + next(signs)) % len(left)) for i in range(many))


def sums_of(cell):
    """The troubles, as the document words them."""
    return [sum(sign * times for sign, times in zip(cell, powers)) % 97 for powers in POWERS]


def with_turns(cell, turns):
    signs = list(cell)
    for place, add in turns:
        signs[place] = (signs[place] + add) % 97
    return signs


def still_turns(places, times):
    """Turns at all of these places, seven at most, that leave the first len(places) - 1 sums as they are.

    For unlike numbers x, m of them, the sum of x ** k, each divided by the product of x less each
    other one, is 0 for k from 0 to m - 2. Here x is 5 ** place, and the turn is divided by x besides.
    """
    points = [5 ** place % 97 for place in places]
    turns = []
    for place, point in zip(places, points):
        below = point
        for other in points:
            if other != point:
                below = below * (point - other) % 97
        turns.append((place, times * pow(below, -1, 97) % 97))
    return turns


def cell_with_one_sum(j):
    """A cell whose sums are all 0 but the one at place j of the six, which is 1."""
    points = [5 ** k % 97 for k in range(1, 7)]
    # The product of z less each other point is 0 at all of these, and below at the point itself.
    product = [1]
    below = points[j] ** 18 % 97
    for point in points[:j] + points[j + 1:]:
        product = [(ahead - point * behind) % 97 for ahead, behind in zip([0] + product, product + [0])]
        below = below * (points[j] - point) % 97
    return [0] * 18 + [pow(below, -1, 97) * part % 97 for part in product]


def bad_lists(many):
    """Lists that are not so many signs: of other lengths, and with what is no sign at each place."""
    yield from ([], [0] * (many - 1), [0] * (many + 1), [7] * (2 * many), [1] * (many - 1), [-1])
    for place in range(many):
        for number in NO_SIGNS:
            signs = [3] * many
            signs[place] = number
            yield signs


def any_fate(signs, late):
    return tuple(
        (
            1 + next(signs) % late,
            tuple((place, 1 + next(signs) % 96) for place in picked(signs, next(signs) % 5, 24)),
        )
        for i in range(next(signs) % 4)
    )
