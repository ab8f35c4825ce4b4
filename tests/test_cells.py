import itertools
import unittest

from reckoning import bad_lists, cell_with_one_sum, picked, still_turns, stream_of_signs, sums_of, taken, with_turns
from stormpost.cells import apart, is_sealed, sealed, troubles
from stormpost.errors import BadCell

STILL = [0] * 6


def samples(seed, many, length):
    signs = stream_of_signs(seed)
    return [taken(signs, length) for i in range(many)]


def ones(length):
    """Lists with one sign that is not 0, at each place."""
    for place in range(length):
        for sign in (1, 2, 48, 96):
            yield [sign if i == place else 0 for i in range(length)]


def eighteens():
    return [[0] * 18, [96] * 18, list(range(18)), list(range(79, 97))] + list(ones(18)) + samples(3, 200, 18)


class SealedTest(unittest.TestCase):
    def test_eighteen_noughts(self):
        self.assertEqual(sealed([0] * 18), [0] * 24)

    def test_begins_with_the_signs_and_all_sums_are_nought(self):
        for signs in eighteens():
            cell = sealed(signs)
            self.assertIsInstance(cell, list)
            self.assertEqual(len(cell), 24)
            self.assertEqual(cell[:18], signs)
            self.assertTrue(all(0 <= sign <= 96 for sign in cell), cell)
            self.assertEqual(sums_of(cell), STILL, signs)

    def test_what_begins_a_sealed_cell_is_sealed_to_it(self):
        signs = stream_of_signs(5)
        for again in range(100):
            cell = with_turns([0] * 24, still_turns(picked(signs, 7, 24), again + 1))
            self.assertEqual(sums_of(cell), STILL)
            self.assertEqual(sealed(cell[:18]), cell)

    def test_is_sealed_tells_so(self):
        for signs in eighteens():
            self.assertIs(is_sealed(sealed(signs)), True)

    def test_any_one_sign_put_otherwise(self):
        for signs in ([0] * 18, [96] * 18, list(range(18))):
            cell = sealed(signs)
            for place, add in itertools.product(range(24), range(1, 97)):
                self.assertIs(is_sealed(with_turns(cell, [(place, add)])), False)

    def test_other_signs_behind_the_same_eighteen(self):
        tails = samples(7, 60, 6) + [[0] * 6, [96] * 6] + list(ones(6))
        for signs in ([0] * 18, [96] * 18, list(range(18)), samples(8, 1, 18)[0]):
            cell = sealed(signs)
            for tail in tails:
                self.assertIs(is_sealed(signs + tail), tail == cell[18:])
                turns = list(zip(range(18, 24), tail))
                self.assertIs(is_sealed(with_turns(cell, turns)), tail == [0] * 6)

    def test_all_sums_are_asked(self):
        for many in range(1, 7):
            cell = with_turns(sealed(list(range(18))), still_turns(range(24)[-many:], 1))
            self.assertEqual(sums_of(cell)[:many - 1], [0] * (many - 1))
            self.assertIs(is_sealed(cell), False)
        for j in range(6):
            cell = cell_with_one_sum(j)
            self.assertEqual(sums_of(cell), [int(i == j) for i in range(6)])
            self.assertIs(is_sealed(cell), False)


class TroublesTest(unittest.TestCase):
    def test_sums_as_reckoned_here(self):
        for cell in [[0] * 24, [96] * 24, list(range(24))] + list(ones(24)) + samples(9, 200, 24):
            told = troubles(cell)
            self.assertIsInstance(told, list)
            self.assertEqual(told, sums_of(cell))

    def test_one_at_the_first_two_places(self):
        self.assertEqual(troubles([1] + [0] * 23), [1] * 6)
        self.assertEqual(troubles([0, 1] + [0] * 22), [5, 25, 28, 43, 21, 8])

    def test_of_a_sealed_cell(self):
        for signs in eighteens():
            self.assertEqual(troubles(sealed(signs)), STILL)

    def test_is_sealed_of_any_cell(self):
        for cell in samples(10, 200, 24):
            self.assertIs(is_sealed(cell), sums_of(cell) == STILL)


class ApartTest(unittest.TestCase):
    def test_unlike_at_any_number_of_places(self):
        signs = stream_of_signs(11)
        for many in range(25):
            for again in range(10):
                one = taken(signs, 24)
                turns = [(place, 1 + next(signs) % 96) for place in picked(signs, many, 24)]
                other = with_turns(one, turns)
                self.assertEqual((apart(one, other), apart(other, one)), (many, many))

    def test_at_each_place(self):
        for place in range(24):
            other = with_turns([0] * 24, [(place, 96)])
            self.assertEqual((apart([0] * 24, other), apart(other, [0] * 24)), (1, 1))

    def test_none_and_all(self):
        cell = list(range(24))
        self.assertEqual(apart(cell, cell), 0)
        self.assertEqual(apart(cell, list(cell)), 0)
        self.assertEqual((apart([0] * 24, [96] * 24), apart([96] * 24, [0] * 24)), (24, 24))
        self.assertEqual(apart(cell, cell[1:] + cell[:1]), 24)

    def test_unlike_sealed_cells(self):
        cells = [sealed(signs) for signs in samples(12, 40, 18) + [[0] * 18, [96] * 18, list(range(18))]]
        for one, other in itertools.combinations(cells, 2):
            self.assertGreaterEqual(apart(one, other), 7)

    def test_sealed_cells_of_signs_unlike_at_one_place(self):
        for signs in ([0] * 18, [96] * 18, samples(13, 1, 18)[0]):
            for place, add in itertools.product(range(18), range(1, 97)):
                self.assertEqual(apart(sealed(signs), sealed(with_turns(signs, [(place, add)]))), 7)

    def test_sealed_cells_unlike_at_just_seven_places(self):
        signs = stream_of_signs(14)
        for again in range(60):
            one = sealed(taken(signs, 18))
            other = with_turns(one, still_turns(picked(signs, 7, 24), again + 1))
            self.assertIs(is_sealed(other), True)
            self.assertEqual((apart(one, other), apart(other, one)), (7, 7))


class RefusalsTest(unittest.TestCase):
    def refused(self, ask, *handed):
        before = [list(cell) for cell in handed]
        with self.subTest(ask=ask.__name__, handed=handed), self.assertRaises(BadCell):
            ask(*handed)
        self.assertEqual(list(handed), before)

    def test_sealed(self):
        for signs in bad_lists(18):
            self.refused(sealed, signs)
        self.refused(sealed, [0] * 24)

    def test_troubles_and_is_sealed(self):
        for cell in bad_lists(24):
            self.refused(troubles, cell)
            self.refused(is_sealed, cell)
        for ask in (troubles, is_sealed):
            self.refused(ask, [0] * 18)

    def test_apart_in_its_first_and_second_cell(self):
        for cell in bad_lists(24):
            for good in ([3] * 24, sealed([0] * 18)):
                self.refused(apart, cell, good)
                self.refused(apart, good, cell)
            self.refused(apart, cell, list(cell))
        self.refused(apart, [0] * 18, [0] * 18)


class OwnershipTest(unittest.TestCase):
    def test_what_is_handed_in_stays(self):
        signs, cell, other = list(range(18)), list(range(24)), [5] * 24
        sealed(signs)
        troubles(cell)
        is_sealed(cell)
        apart(cell, other)
        self.assertEqual((signs, cell, other), (list(range(18)), list(range(24)), [5] * 24))

    def test_what_is_told_is_the_askers_own(self):
        signs = list(range(18))
        told, then = sealed(signs), sealed(signs)
        told[0] = 50
        told.append(51)
        self.assertEqual(signs, list(range(18)))
        self.assertEqual(sealed(signs), then)
        cell = list(range(24))
        told, then = troubles(cell), troubles(cell)
        told[0] += 1
        told.append(51)
        self.assertEqual(cell, list(range(24)))
        self.assertEqual(troubles(cell), then)

    def test_what_is_told_stays_when_what_was_handed_in_is_changed(self):
        signs = [1] * 18
        told = sealed(signs)
        then = list(told)
        signs[0] = 2
        signs.append(3)
        sealed(signs[:18])
        self.assertEqual(told, then)
        cell = [1] * 24
        told = troubles(cell)
        cell[0] = 2
        troubles(cell)
        self.assertEqual(told, sums_of([1] * 24))

    def test_what_is_told_may_be_handed_in_again(self):
        cell = sealed([96] * 18)
        self.assertEqual(sealed(sealed(cell[:18])[:18]), cell)
        self.assertEqual((troubles(cell), is_sealed(cell), apart(cell, cell)), (STILL, True, 0))


if __name__ == "__main__":
    unittest.main()
