import copy
import itertools
import unittest

from drawn import KINDS, any_letter, greatest_letters, least_letters, otherwise, restretched
from reckoning import FAR, NO_SIGNS, stream_of_signs, taken
from stormpost.errors import BadLetter, BadPiece
from stormpost.letters import Joiner, letter_of, letter_signs, made_letter, pieces_of

PLAIN = (7, (3, 0, 31), "part", (1, 2), (96, 0, 5))
EDGES = least_letters() + greatest_letters() + [PLAIN]
BAD_PIECES = (
    [[], [0] * 11, [1] * 11, [96] * 72]
    + [[number] for number in NO_SIGNS]
    + [[3] * place + [number] + [1] * (9 - place) for place in range(10) for number in NO_SIGNS]
    + [[1] * 10 + [97], [-1] * 11]
)


def with_part(place, part):
    letter = list(PLAIN)
    letter[place] = part
    return letter


def drawn_letters(seed, many):
    signs = stream_of_signs(seed)
    return [any_letter(signs) for i in range(many)]


def is_list_of_signs(signs):
    return isinstance(signs, list) and all(type(sign) is int and 0 <= sign <= 96 for sign in signs)


class MadeLetterTest(unittest.TestCase):
    def test_of_lists_and_of_tuples(self):
        for letter in EDGES + drawn_letters(1, 200):
            for kinds in itertools.product((list, tuple), repeat=3):
                count, way, kind, about, body = letter
                made = made_letter(count, kinds[0](way), kind, kinds[1](about), kinds[2](body))
                self.assertEqual(made, letter)
                self.assertIsInstance(made, tuple)
                for place in (1, 3, 4):
                    self.assertIsInstance(made[place], tuple)

    def test_each_length_and_each_house(self):
        for house in range(32):
            self.assertEqual(made_letter(0, [house], "ask", [], []), (0, (house,), "ask", (), ()))
        for length in range(1, 7):
            way = tuple(range(31, 31 - length, -1))
            self.assertEqual(made_letter(1, way, "had", (), ()), (1, way, "had", (), ()))
        for length in range(5):
            self.assertEqual(made_letter(1, [2], "had", [96] * length, [])[3], (96,) * length)
        for length in range(57):
            self.assertEqual(made_letter(1, [2], "had", [], [0] * length)[4], (0,) * length)

    def refused(self, place, parts):
        for part in parts:
            kinds = (list, tuple) if isinstance(part, list) else (lambda same: same,)
            for kind in kinds:
                with self.subTest(part=part), self.assertRaises(BadLetter):
                    made_letter(*with_part(place, kind(part)))

    def test_counts_beyond(self):
        for count in (0, 1, 96, 97, 899999, 900000):
            self.assertEqual(made_letter(*with_part(0, count))[0], count)
        self.refused(0, (-1, 900001, -2, 912672, 912673, -900000, FAR, -FAR))

    def test_ways_that_are_none(self):
        self.refused(1, ([], list(range(7)), list(range(32)), [4] * 7))
        for length in range(2, 7):
            for one, other in itertools.combinations(range(length), 2):
                way = list(range(10, 10 + length))
                way[one] = way[other]
                self.refused(1, [way])

    def test_houses_that_are_none(self):
        for length in range(1, 7):
            for place in range(length):
                for house in (-1, 32, 33, -32, 97, FAR, -FAR):
                    way = list(range(length))
                    way[place] = house
                    self.refused(1, [way])

    def test_other_kinds(self):
        self.refused(2, ("", "New", "news ", " news", "NEWS", "new", "newss", "parts", "hads", "answers", "a", "0"))
        for one, other in itertools.permutations(KINDS, 2):
            self.refused(2, (one + other, one + " " + other))

    def test_signs_beyond(self):
        for place, most in ((3, 4), (4, 56)):
            self.refused(place, ([0] * (most + 1), [96] * (most + 2), [5] * 97, [-1] * (most + 1)))
            for length in range(1, most + 1):
                for at, number in itertools.product({0, length // 2, length - 1}, NO_SIGNS):
                    part = [1] * length
                    part[at] = number
                    self.refused(place, [part])


class SignsTest(unittest.TestCase):
    def test_there_and_back(self):
        for letter in EDGES + drawn_letters(2, 1500):
            signs = letter_signs(letter)
            self.assertTrue(is_list_of_signs(signs))
            self.assertTrue(1 <= len(signs) <= 72)
            self.assertEqual(letter_of(signs), letter)

    def test_a_letter_told_is_as_made(self):
        letter = letter_of(letter_signs(PLAIN))
        self.assertIsInstance(letter, tuple)
        for place in (1, 3, 4):
            self.assertIsInstance(letter[place], tuple)
        self.assertEqual(made_letter(*letter), PLAIN)

    def test_each_length_of_each_part(self):
        for way, about, body in itertools.product(range(1, 7), range(5), range(57)):
            letter = (body, tuple(range(way)), KINDS[body % 5], (0,) * about, (0,) * body)
            signs = letter_signs(letter)
            self.assertTrue(len(signs) <= 72)
            self.assertEqual(letter_of(signs), letter)

    def test_counts(self):
        for count in list(range(0, 900001, 4999)) + [96, 97, 9408, 9409, 899999, 900000]:
            letter = (count,) + PLAIN[1:]
            self.assertEqual(letter_of(letter_signs(letter)), letter)

    def test_unlike_letters_have_unlike_signs(self):
        letters = EDGES + drawn_letters(3, 1000)
        # Letters that look alike where one part runs into the next.
        for cut in itertools.combinations(range(1, 7), 2):
            for sign in (0, 1, 5):
                row = (sign, 2, 3, 4, 6, 7)
                letters += [(1, row[:cut[0]], kind, row[cut[0]:cut[1]][:4], row[cut[1]:]) for kind in KINDS]
        for parts in itertools.product((0, 1, 97), ((0,), (1,), (0, 1), (1, 0)), KINDS, ((), (0,)), ((), (0,), (0, 0))):
            letters.append(parts)
        letters = sorted(set(letters))
        self.assertEqual(len({tuple(letter_signs(letter)) for letter in letters}), len(letters))


class LetterOfTest(unittest.TestCase):
    def refused(self, signs):
        before = list(signs)
        with self.subTest(signs=signs), self.assertRaises(BadLetter):
            letter_of(signs)
        self.assertEqual(signs, before)

    def looked_at(self, signs):
        """Either refused, or the signs of just the letter that they tell; tells which of both."""
        try:
            letter = letter_of(signs)
        except BadLetter:
            return False
        self.assertEqual(made_letter(*letter), letter)
        self.assertEqual(letter_signs(letter), signs)
        return True

    def test_lists_of_other_lengths(self):
        self.refused([])
        for sign in range(97):
            for length in (73, 74, 97):
                self.refused([sign] * length)
        for letter in greatest_letters():
            signs = letter_signs(letter)
            self.refused(signs + [0] * (73 - len(signs)))
            self.refused(signs + signs)

    def test_numbers_that_are_no_signs(self):
        for letter in (PLAIN, EDGES[0], EDGES[-2]):
            signs = letter_signs(letter)
            for place in range(len(signs)):
                for number in NO_SIGNS:
                    self.refused(signs[:place] + [number] + signs[place + 1:])
                    if len(signs) < 72:
                        self.refused(signs[:place] + [number] + signs[place:])

    def test_signs_put_otherwise(self):
        for letter in [PLAIN] + least_letters() + greatest_letters()[::7] + drawn_letters(4, 12):
            taken_lists = [self.looked_at(signs) for signs in otherwise(letter_signs(letter), range(97))]
            self.assertIn(True, taken_lists)
            self.assertIn(False, taken_lists)

    def test_stretches_exchanged_or_twice_there(self):
        for letter in [PLAIN] + greatest_letters()[::5] + drawn_letters(5, 12):
            for signs in restretched(letter_signs(letter), range(1, 8)):
                self.looked_at(signs)

    def test_any_two_signs_of_a_short_letter(self):
        # Whichever signs tell the count, all counts up to the greatest that they can tell are among these.
        for letter in ((900000, (1,), "had", (), ()), (899912, (0, 31), "news", (1,), ())):
            signs = letter_signs(letter)
            greatest = 0
            for one, other in itertools.combinations(range(len(signs)), 2):
                for pair in itertools.product(range(97), repeat=2):
                    turned = list(signs)
                    turned[one], turned[other] = pair
                    if self.looked_at(turned):
                        greatest = max(greatest, letter_of(turned)[0])
            self.assertEqual(greatest, 900000)

    def test_any_lists(self):
        signs = stream_of_signs(6)
        for turn in range(3000):
            self.looked_at(taken(signs, 1 + turn % 72))
            self.looked_at([sign % 7 for sign in taken(signs, 1 + turn % 72)])
        for sign in range(97):
            for length in range(1, 73):
                self.looked_at([sign] * length)
        for length in range(1, 8):
            for row in itertools.product((0, 1, 2), repeat=length):
                self.looked_at(list(row))


class PiecesTest(unittest.TestCase):
    def lists_of(self, length):
        signs = stream_of_signs(length)
        yield from ([sign] * length for sign in (0, 1, 2, 9, 10, length, 96))
        yield list(range(length))
        yield [place % 2 for place in range(length)]
        yield [1 - place % 2 for place in range(length)]
        for turn in range(5):
            yield taken(signs, length)

    def test_at_most_eight_of_one_to_ten_signs(self):
        for length in range(1, 73):
            for signs in self.lists_of(length):
                pieces = pieces_of(signs)
                self.assertIsInstance(pieces, list)
                self.assertTrue(1 <= len(pieces) <= 8)
                for piece in pieces:
                    self.assertTrue(is_list_of_signs(piece))
                    self.assertTrue(1 <= len(piece) <= 10)

    def test_each_list_comes_with_its_last_piece(self):
        for lengths in (range(1, 73), range(72, 0, -1), [1, 72] * 20, [9, 10, 18, 19, 27] * 3):
            joiner = Joiner()
            for length in lengths:
                for signs in self.lists_of(length):
                    pieces = pieces_of(signs)
                    told = [joiner.take(piece) for piece in pieces]
                    self.assertEqual(told, [None] * (len(pieces) - 1) + [signs])
                    self.assertIsInstance(told[-1], list)

    def test_letters_come_whole(self):
        joiner = Joiner()
        for letter in EDGES + drawn_letters(8, 200):
            told = [joiner.take(piece) for piece in pieces_of(letter_signs(letter))]
            self.assertEqual(set(told[:-1]) | {None}, {None})
            self.assertEqual(letter_of(told[-1]), letter)

    def test_bad_pieces_change_nothing_at_every_place_between(self):
        joiner = Joiner()
        for length in (1, 2, 9, 10, 20, 45, 71, 72):
            signs = taken(stream_of_signs(length), length)
            pieces = pieces_of(signs)
            for place, piece in enumerate(pieces):
                for bad in BAD_PIECES:
                    before = list(bad)
                    with self.subTest(bad=bad), self.assertRaises(BadPiece):
                        joiner.take(bad)
                    self.assertEqual(bad, before)
                self.assertEqual(joiner.take(piece), signs if place == len(pieces) - 1 else None)


class OwnershipTest(unittest.TestCase):
    def test_parts_handed_in_stay_and_may_be_changed_later(self):
        way, about, body = [3, 0, 31], [1, 2], [96, 0, 5]
        letter = made_letter(7, way, "part", about, body)
        self.assertEqual((way, about, body), ([3, 0, 31], [1, 2], [96, 0, 5]))
        for row in (way, about, body):
            row[0] = 8
            row.append(9)
        self.assertEqual(letter, PLAIN)
        for bad in (([3, 3], [1], [2]), ([1, 32], [1], [2]), ([3], [1] * 5, [2]), ([3], [1], [2, 97])):
            before = copy.deepcopy(bad)
            with self.assertRaises(BadLetter):
                made_letter(7, bad[0], "part", bad[1], bad[2])
            self.assertEqual(bad, before)

    def test_signs_handed_in_stay_and_may_be_changed_later(self):
        signs = letter_signs(PLAIN)
        before = list(signs)
        letter = letter_of(signs)
        pieces = pieces_of(signs)
        self.assertEqual(signs, before)
        signs.reverse()
        signs.clear()
        self.assertEqual(letter, PLAIN)
        joiner = Joiner()
        self.assertEqual([joiner.take(piece) for piece in pieces][-1], before)

    def test_what_is_told_is_the_askers_own(self):
        told = letter_signs(PLAIN)
        first = list(told)
        told[0] = 50
        told.append(1)
        self.assertEqual(letter_signs(PLAIN), first)
        signs = list(range(40))
        pieces = pieces_of(signs)
        before = copy.deepcopy(pieces)
        self.assertEqual(len({id(piece) for piece in pieces}), len(pieces))
        pieces[0].append(3)
        pieces[1].clear()
        pieces.pop()
        self.assertEqual(pieces_of(signs), before)
        self.assertEqual(signs, list(range(40)))

    def test_pieces_taken_stay_and_may_be_changed_later(self):
        signs = list(range(50, 90))
        joiner = Joiner()
        for turn in range(2):
            pieces = pieces_of(signs)
            for piece in pieces:
                before = list(piece)
                told = joiner.take(piece)
                self.assertEqual(piece, before)
                piece.reverse()
                piece.clear()
            self.assertEqual(told, signs)
            told.clear()

    def test_a_told_list_is_not_changed_later(self):
        joiner = Joiner()
        first = [joiner.take(piece) for piece in pieces_of([1, 2, 3])][-1]
        second = [joiner.take(piece) for piece in pieces_of([4] * 30)][-1]
        self.assertEqual((first, second), ([1, 2, 3], [4] * 30))
        first.append(9)
        self.assertEqual([joiner.take(piece) for piece in pieces_of([5])], [[5]])
        self.assertEqual(second, [4] * 30)

    def test_two_joiners_are_apart(self):
        one, other = Joiner(), Joiner()
        first, second = list(range(72)), list(range(96, 24, -1))
        told = []
        for piece, another in zip(pieces_of(first), pieces_of(second)):
            told.append((one.take(piece), other.take(another)))
        self.assertEqual(told[-1], (first, second))
        self.assertEqual(set(told[:-1]), {(None, None)})
        one.take(pieces_of(first)[0])
        self.assertEqual([Joiner().take(piece) for piece in pieces_of([1])], [[1]])

    def test_asked_again_tells_alike(self):
        for letter in EDGES:
            self.assertEqual(letter_signs(letter), letter_signs(letter))
            signs = letter_signs(letter)
            self.assertEqual(letter_of(signs), letter_of(signs))
            self.assertEqual(pieces_of(signs), pieces_of(signs))


if __name__ == "__main__":
    unittest.main()
