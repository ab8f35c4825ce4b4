"""Letters and news that several tests draw, apart from the program."""

from reckoning import picked, taken

KINDS = ("news", "part", "had", "ask", "answer")
HOUSES = range(32)


def number_below(signs, most):
    """A drawn number from 0 to most - 1."""
    number = 0
    for sign in taken(signs, 4):
        number = 97 * number + sign
    return number % most


def shuffled(signs, things):
    left = list(things)
    return [left.pop(number_below(signs, len(left))) for i in range(len(left))]


def any_way(signs):
    return tuple(shuffled(signs, picked(signs, 1 + next(signs) % 6, 32)))


def any_letter(signs):
    return (
        number_below(signs, 900001),
        any_way(signs),
        KINDS[next(signs) % 5],
        tuple(taken(signs, next(signs) % 5)),
        tuple(taken(signs, next(signs) % 57)),
    )


def least_letters():
    """For each kind the letters with the least of everything."""
    return [(0, (house,), kind, (), ()) for kind in KINDS for house in (0, 31)]


def greatest_letters():
    """For each kind letters with the greatest count and length of everything."""
    return [
        (900000, way, kind, (sign,) * 4, (sign,) * 56)
        for kind in KINDS for sign in (0, 1, 96) for way in ((31, 30, 29, 28, 27, 26), (0, 1, 2, 3, 4, 5))
    ]


def any_name(signs):
    return "".join("abcdefghijklmnopqrstuvwxyz"[next(signs) % 26] for i in range(1 + next(signs) % 4))


def any_news(signs):
    house = next(signs) % 32
    others = [other for other in picked(signs, next(signs) % 6, 32) if other != house]
    near = tuple(
        (other, 1 + next(signs) % 10, (1 + number_below(signs, 9000), 1 + number_below(signs, 9000)))
        for other in others
    )
    names = tuple(sorted({any_name(signs) for i in range(next(signs) % 5)}))
    return (house, number_below(signs, 900001), near, names)


def otherwise(row, numbers):
    """Rows that are the row with one left out, one more, one put otherwise, two exchanged, or cut off."""
    row = list(row)
    for place in range(len(row)):
        yield row[:place]
        yield row[:place] + row[place + 1:]
        for number in numbers:
            if number != row[place]:
                yield row[:place] + [number] + row[place + 1:]
        for other in range(place):
            if row[place] != row[other]:
                turned = list(row)
                turned[place], turned[other] = row[other], row[place]
                yield turned
    for place in range(len(row) + 1):
        for number in numbers:
            yield row[:place] + [number] + row[place:]


def restretched(row, lengths):
    """Rows that are the row with two neighbouring stretches exchanged, or one stretch twice there."""
    row = list(row)
    for length in lengths:
        for begin in range(len(row) - length + 1):
            middle = begin + length
            stretch = row[begin:middle]
            yield row[:middle] + stretch + row[middle:]
            for other in lengths:
                if row[middle:middle + other] and row[middle:middle + other] != stretch:
                    yield row[:begin] + row[middle:middle + other] + stretch + row[middle + other:]
