"""Maps: what houses tell of their wires and names, and what stands by what both ends tell."""

from stormpost.errors import BadNews, BadSign
from stormpost.fields import is_sign
from stormpost.letters import is_house
from stormpost.signs import number_signs, signs_number, signs_text, text_signs

MOST_NUMBER = 900000
MOST_NEAR = 5
MOST_QUIET = 10
MOST_BIRTH = 9000
MOST_NAMES = 4
LONGEST_NAME = 4

# What a body tells, by its places: the house, the number, how many wires, then each
# wire (other house, quiet, both births), and to the end the names, parted by blanks.
# So the longest body has 54 signs.
NUMBER_SIGNS = 3
NUMBER_AT = 1
MANY_AT = 4
NEAR_AT = 5
BIRTH_SIGNS = 2
WIRE_SIGNS = 6


def look_house(number):
    if not is_house(number):
        raise BadNews(f"{number} is no house")


def look_bounds(number, least, most):
    if not least <= number <= most:
        raise BadNews(f"from {least} to {most} is asked for here, not {number}")


def look_unlike(things, most):
    if len(things) > most:
        raise BadNews(f"at most {most} are asked for here")
    if len(set(things)) != len(things):
        raise BadNews("one of them is there twice")


def is_name(text):
    """Whether the text is 1 to 4 letters a to z."""
    return 1 <= len(text) <= LONGEST_NAME and all(["a" <= letter <= "z" for letter in text])


def look_names(names):
    look_unlike(names, MOST_NAMES)
    for name in names:
        if not is_name(name):
            raise BadNews(f"{name!r} is no name")


def made_wire(wire):
    """A wire of the news as a triple (other house, quiet, pair)."""
    look_house(wire[0])
    look_bounds(wire[1], 1, MOST_QUIET)
    for birth in wire[2]:
        look_bounds(birth, 1, MOST_BIRTH)
    return (wire[0], wire[1], tuple(wire[2]))


def made_near(house, near):
    wires = sorted([made_wire(wire) for wire in near])
    others = [wire[0] for wire in wires]
    look_unlike(others, MOST_NEAR)
    if house in others:
        raise BadNews("no wire leads from a house to itself")
    return tuple(wires)


def made_news(house, number, near, names):
    """The news as a tuple of tuples, wires and names rising."""
    look_house(house)
    look_bounds(number, 0, MOST_NUMBER)
    look_names(names)
    return (house, number, made_near(house, near), tuple(sorted(names)))


def wire_signs(wire):
    pair = wire[2]
    births = number_signs(pair[0], BIRTH_SIGNS) + number_signs(pair[1], BIRTH_SIGNS)
    return [wire[0], wire[1]] + births


def wire_of(signs):
    return (signs[0], signs[1], (signs_number(signs[2:4]), signs_number(signs[4:6])))


def news_body(news):
    """The signs that tell the news, as a tuple."""
    near = news[2]
    signs = [news[0]] + number_signs(news[1], NUMBER_SIGNS) + [len(near)]
    for wire in near:
        signs.extend(wire_signs(wire))
    signs.extend(text_signs(" ".join(news[3])))
    return tuple(signs)


def names_of(signs):
    """The names that are told by these signs, as a list."""
    if not signs:
        return []
    try:
        return signs_text(signs).split(" ")
    except BadSign:
        raise BadNews("the signs of the names tell no text") from None


def news_of(body):
    """The news whose body this is."""
    signs = list(body)
    if len(signs) < NEAR_AT or not all([is_sign(sign) for sign in signs]):
        raise BadNews("no news begin so, or a number is no sign")
    names_at = NEAR_AT + WIRE_SIGNS * signs[MANY_AT]
    if len(signs) < names_at:
        raise BadNews("the signs end ahead of the names")
    near = [wire_of(signs[at:at + WIRE_SIGNS]) for at in range(NEAR_AT, names_at, WIRE_SIGNS)]
    news = made_news(signs[0], signs_number(signs[NUMBER_AT:MANY_AT]), near, names_of(signs[names_at:]))
    # Wires and names may have been told in another order than the rising one.
    if news_body(news) != tuple(signs):
        raise BadNews("these news are told by other signs")
    return news


class Map:
    def __init__(self):
        self.latest = {}

    def hear(self, news):
        """Keeps the news if they are newer than those kept of their house, and tells whether they were."""
        house = news[0]
        newer = house not in self.latest or news[1] > self.latest[house][1]
        if newer:
            self.latest[house] = news
        return newer

    def news(self):
        """The news kept, by houses, as a list."""
        return [self.latest[house] for house in sorted(self.latest)]

    def wires(self):
        """The wires that stand, as the rising list of (a, b, length), a less than b."""
        told = {}
        for house, number, near, names in self.news():
            for other, quiet, pair in near:
                told[(house, other, pair)] = quiet
        standing = []
        for house, other, pair in told:
            back = (other, house, pair)
            if house < other and back in told:
                standing.append((house, other, max(told[(house, other, pair)], told[back])))
        return sorted(standing)

    def holder(self, name):
        """The least house whose news have the name, or None."""
        holders = [house for house, number, near, names in self.news() if name in names]
        return holders[0] if holders else None

    def copy(self):
        twin = Map()
        for news in self.news():
            twin.hear(news)
        return twin
