import itertools
import unittest

from reckoning import bad_lists, cell_with_one_sum, picked, still_turns, stream_of_signs, sums_of, taken, with_turns
from stormpost.cells import apart, is_sealed, sealed
from stormpost.errors import BadCell
from stormpost.mending import is_readable, mended

ADDS = (1, 2, 48, 95, 96)
PAIRS = list(itertools.combinations(range(24), 2))


def some_sealed(seed, many):
    signs = stream_of_signs(seed)
    return [sealed([0] * 18), sealed([96] * 18)] + [sealed(taken(signs, 18)) for i in range(many)]


def unit(signs):
    return 1 + next(signs) % 96


def sums_of_turns(turns):
    return sums_of(with_turns([0] * 24, turns))


def searched(cell):
    """All sealed cells unlike this one at two places at most, looked for at all places and pairs."""
    wanted = [-value % 97 for value in sums_of(cell)]
    found = [list(cell)] if wanted == [0] * 6 else []
    for place, add in itertools.product(range(24), range(1, 97)):
        if wanted[0] == add * 5 ** place % 97 and sums_of_turns([(place, add)]) == wanted:
            found.append(with_turns(cell, [(place, add)]))
    for one, other in PAIRS:
        x, y = 5 ** one % 97, 5 ** other % 97
        # For each pair the first two sums leave one choice of turns: sum 2 less y times sum 1 is
        # the turn at one times x * (x - y), and likewise with x and y exchanged.
        at_one = (wanted[1] - y * wanted[0]) * pow(x * (x - y), -1, 97) % 97
        at_other = (wanted[1] - x * wanted[0]) * pow(y * (y - x), -1, 97) % 97
        turns = [(one, at_one), (other, at_other)]
        if at_one and at_other and sums_of_turns(turns) == wanted:
            found.append(with_turns(cell, turns))
    return found


class MendingTest(unittest.TestCase):
    def tells(self, cell, answer):
        before = list(cell)
        told = mended(cell)
        self.assertEqual(told, answer, before)
        self.assertIs(is_readable(cell), answer is not None, before)
        self.assertEqual(cell, before)

    def test_no_sign_turned(self):
        for cell in some_sealed(21, 200):
            self.tells(cell, cell)

    def test_one_sign_turned_at_each_place_by_each_add(self):
        for cell in some_sealed(22, 1):
            for place, add in itertools.product(range(24), range(1, 97)):
                self.tells(with_turns(cell, [(place, add)]), cell)

    def test_two_signs_turned_at_each_pair_of_places(self):
        for cell in some_sealed(23, 1):
            for one, other in PAIRS:
                for adds in ((1, 1), (96, 96), (1, 96), (48, 2)):
                    self.tells(with_turns(cell, zip((one, other), adds)), cell)

    def test_two_signs_turned_at_the_ends_by_all_adds(self):
        cell = some_sealed(24, 1)[2]
        for add in range(1, 97):
            for other in ADDS:
                for places in ((0, 23), (0, 1), (22, 23), (17, 18)):
                    self.tells(with_turns(cell, zip(places, (add, other))), cell)

    def test_two_signs_turned_so_that_the_first_sums_are_nought(self):
        signs = stream_of_signs(25)
        for one, other in PAIRS:
            cell = sealed(taken(signs, 18))
            turns = still_turns([one, other], unit(signs))
            self.assertEqual(sums_of_turns(turns)[0], 0)
            self.tells(with_turns(cell, turns), cell)
        # Two turns can make any one of the six sums 0: a turn of 1, and the one that takes it away there.
        for j, pair in itertools.product(range(1, 7), ((0, 1), (0, 23), (5, 11), (22, 23))):
            turns = [(pair[0], 1), (pair[1], -pow(5, (pair[0] - pair[1]) * j, 97) % 97)]
            self.assertEqual(sums_of_turns(turns)[j - 1], 0)
            self.tells(with_turns(cell, turns), cell)

    def test_three_and_four_signs_turned(self):
        signs = stream_of_signs(26)
        for many in (3, 4):
            for again in range(500):
                cell = sealed(taken(signs, 18))
                turns = [(place, unit(signs)) for place in picked(signs, many, 24)]
                self.tells(with_turns(cell, turns), None)

    def test_three_and_four_signs_turned_at_the_ends(self):
        for cell in some_sealed(27, 1):
            for many in (3, 4):
                for places in (range(many), range(24 - many, 24), [0, 23, 11, 12][:many]):
                    for adds in itertools.product((1, 50, 96), repeat=many):
                        self.tells(with_turns(cell, zip(places, adds)), None)


class FurtherTurnsTest(unittest.TestCase):
    """Three and four turns that, with one or two further ones, make all sums but the last ones 0."""

    def looks_like_two(self, seed, many, noughts):
        signs = stream_of_signs(seed)
        for again in range(200):
            cell = sealed(taken(signs, 18))
            turns = still_turns(picked(signs, noughts + 1, 24), unit(signs))
            whole = sums_of(with_turns(cell, turns))
            self.assertEqual(whole[:noughts], [0] * noughts)
            self.assertNotEqual(whole[noughts], 0)
            for done in itertools.combinations(turns, many):
                turned = with_turns(cell, done)
                self.assertIsNone(mended(turned), (cell, done))
                self.assertIs(is_readable(turned), False)

    def test_three_turned_two_further_last_two_sums_left(self):
        self.looks_like_two(31, 3, 4)

    def test_four_turned_one_further_last_two_sums_left(self):
        self.looks_like_two(32, 4, 4)

    def test_four_turned_two_further_last_sum_left(self):
        self.looks_like_two(33, 4, 5)

    def test_three_turned_one_further_last_three_sums_left(self):
        self.looks_like_two(34, 3, 3)


class AnyCellTest(unittest.TestCase):
    def agrees(self, cell):
        found = searched(cell)
        self.assertLessEqual(len(found), 1)
        told = mended(cell)
        self.assertEqual(told, found[0] if found else None, cell)
        self.assertIs(is_readable(cell), bool(found))
        if told is not None:
            self.assertTrue(is_sealed(told))
            self.assertLessEqual(apart(cell, told), 2)
        return bool(found)

    def test_any_signs(self):
        signs = stream_of_signs(41)
        for again in range(40):
            self.agrees(taken(signs, 24))
        for cell in ([96] * 24, [1] * 24, list(range(24)), [0] * 23 + [1], [1] + [0] * 23, [1] * 3 + [0] * 21):
            self.agrees(cell)

    def test_sealed_cells_with_nought_to_six_turned(self):
        signs = stream_of_signs(42)
        for many in range(7):
            for again in range(8):
                turns = [(place, unit(signs)) for place in picked(signs, many, 24)]
                found = self.agrees(with_turns(sealed(taken(signs, 18)), turns))
                if many < 5:
                    self.assertIs(found, many < 3)

    def test_between_two_sealed_cells(self):
        signs = stream_of_signs(43)
        for again in range(6):
            one = sealed(taken(signs, 18))
            turns = still_turns(picked(signs, 7, 24), unit(signs))
            for many in range(8):
                found = self.agrees(with_turns(one, turns[:many]))
                self.assertIs(found, many < 3 or many > 4)
            self.assertEqual(mended(with_turns(one, turns[:5])), with_turns(one, turns))

    def test_sums_that_are_partly_nought(self):
        rows = [cell_with_one_sum(j) for j in range(6)]
        for kept in itertools.product((0, 1), repeat=6):
            wanted = [(7 * j + 3) * keep for j, keep in enumerate(kept)]
            cell = [sum(times * row[i] for times, row in zip(wanted, rows)) % 97 for i in range(24)]
            self.assertEqual(sums_of(cell), wanted)
            self.agrees(cell)


class RefusalsTest(unittest.TestCase):
    def test_lists_that_are_no_cells(self):
        for cell in itertools.chain(bad_lists(24), [[0] * 18]):
            before = list(cell)
            for ask in (mended, is_readable):
                with self.subTest(ask=ask.__name__, cell=cell), self.assertRaises(BadCell):
                    ask(cell)
                self.assertEqual(cell, before)


class OwnershipTest(unittest.TestCase):
    def test_what_is_told_is_the_askers_own(self):
        clean = sealed(list(range(18)))
        for turns in ([], [(0, 5)], [(3, 96), (23, 1)]):
            cell = with_turns(clean, turns)
            told = mended(cell)
            told[0] = 77
            told.append(1)
            self.assertEqual(cell, with_turns(clean, turns))
            self.assertEqual(mended(cell), clean)

    def test_what_is_told_stays_when_what_was_handed_in_is_changed(self):
        clean = sealed(list(range(18)))
        for turns in ([], [(0, 5)], [(3, 96), (23, 1)]):
            cell = with_turns(clean, turns)
            told = mended(cell)
            cell[5] = 90
            cell.append(1)
            mended(cell[:24])
            self.assertEqual(told, clean)

    def test_what_is_told_may_be_handed_in_again(self):
        clean = sealed([96] * 18)
        self.assertEqual(mended(mended(with_turns(clean, [(0, 5), (1, 6)]))), clean)


if __name__ == "__main__":
    unittest.main()
