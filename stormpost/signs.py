"""Texts and numbers told by signs."""

from stormpost.errors import BadSign
from stormpost.fields import SIGNS, look_sign

# The letter of each sign stands at its place. 5 tells no letter: the blank at
# that place only keeps it, since a blank is looked for and found at 0.
LETTERS = " !\"#$ &'()*+,-./0123456789:;<=>?@ABCDEFGHIJKLMNOPQRSTUVWXYZ[\\]^_`abcdefghijklmnopqrstuvwxyz{|}~\n"
UNTOLD = 5


def letter_sign(letter):
    sign = LETTERS.find(letter)
    if sign < 0:
        raise BadSign(f"{letter!r} is told by no sign")
    return sign


def sign_letter(sign):
    if sign == UNTOLD or not 0 <= sign < len(LETTERS):
        raise BadSign(f"{sign} tells no letter")
    return LETTERS[sign]


def text_signs(text):
    """The signs of a text, one for each letter."""
    return [letter_sign(letter) for letter in text]


def signs_text(signs):
    """The text that the signs tell."""
    return "".join([sign_letter(sign) for sign in signs])


def number_signs(number, many):
    """So many signs that tell the number, the greatest place first."""
    signs = []
    left = number
    for place in range(many):
        signs.append(left % SIGNS)
        left = left // SIGNS
    if number < 0 or left > 0:
        raise BadSign(f"{number} is not told by {many} signs")
    return list(reversed(signs))


def signs_number(signs):
    """The number that the signs tell, the greatest place first."""
    number = 0
    for sign in signs:
        look_sign(sign)
        number = number * SIGNS + sign
    return number
