"""Letters: told by signs, cut into pieces for a wire, and put together again."""

from stormpost.errors import BadLetter
from stormpost.fields import is_sign
from stormpost.links import look_piece
from stormpost.signs import number_signs, signs_number

HOUSES = 32
KINDS = ("news", "part", "had", "ask", "answer")
MOST_COUNT = 900000
LONGEST_WAY = 6
LONGEST_ABOUT = 4
LONGEST_BODY = 56

# What a letter's signs tell, by their places: its count, the place of its kind in
# KINDS, how many houses its way has and how many signs its about, then the way, the
# about and the body, which goes to the end. So the longest letter has 72 signs.
COUNT_SIGNS = 3
KIND_AT = 3
WAY_LENGTH_AT = 4
ABOUT_LENGTH_AT = 5
WAY_AT = 6
MOST_SIGNS = 72

# A piece's first sign tells whether the letter goes on behind it. It leaves room for
# nine others, so that 72 signs just go into 8 pieces.
GOES_ON = 0
ENDS = 1
SIGNS_A_PIECE = 9


def is_house(number):
    return 0 <= number < HOUSES


def look_signs(signs, most):
    if len(signs) > most:
        raise BadLetter(f"at most {most} signs are asked for here")
    for sign in signs:
        if not is_sign(sign):
            raise BadLetter(f"{sign} is no sign")


def look_way(way):
    if not 1 <= len(way) <= LONGEST_WAY:
        raise BadLetter(f"a way has 1 to {LONGEST_WAY} houses")
    for house in way:
        if not is_house(house):
            raise BadLetter(f"{house} is no house")
    if len(set(way)) != len(way):
        raise BadLetter("a way has no house twice")


def made_letter(count, way, kind, about, body):
    """The letter as a tuple of tuples."""
    if not 0 <= count <= MOST_COUNT:
        raise BadLetter(f"a count is from 0 to {MOST_COUNT}, not {count}")
    look_way(way)
    if kind not in KINDS:
        raise BadLetter(f"{kind!r} is no kind of letter")
    look_signs(about, LONGEST_ABOUT)
    look_signs(body, LONGEST_BODY)
    return (count, tuple(way), kind, tuple(about), tuple(body))


def letter_signs(letter):
    """The signs that tell the letter, as a list."""
    way = list(letter[1])
    about = list(letter[3])
    head = number_signs(letter[0], COUNT_SIGNS) + [KINDS.index(letter[2]), len(way), len(about)]
    return head + way + about + list(letter[4])


def letter_of(signs):
    """The one letter whose signs these are."""
    look_signs(signs, MOST_SIGNS)
    if len(signs) < WAY_AT or signs[KIND_AT] >= len(KINDS):
        raise BadLetter("no letter begins so")
    about_at = WAY_AT + signs[WAY_LENGTH_AT]
    body_at = about_at + signs[ABOUT_LENGTH_AT]
    if len(signs) < body_at:
        raise BadLetter("the signs end ahead of the body")
    count = signs_number(signs[:COUNT_SIGNS])
    kind = KINDS[signs[KIND_AT]]
    return made_letter(count, signs[WAY_AT:about_at], kind, signs[about_at:body_at], signs[body_at:])


def pieces_of(signs):
    """The pieces into which these signs, 1 to 72, are cut, as a list of lists."""
    pieces = []
    for begin in range(0, len(signs), SIGNS_A_PIECE):
        end = begin + SIGNS_A_PIECE
        head = GOES_ON if end < len(signs) else ENDS
        pieces.append([head] + signs[begin:end])
    return pieces


class Joiner:
    def __init__(self):
        self.joined = []

    def take(self, piece):
        """The list of signs that ends with this piece, else None."""
        look_piece(piece)
        self.joined.extend(piece[1:])
        if piece[0] == GOES_ON:
            return None
        whole = self.joined
        self.joined = []
        return whole
