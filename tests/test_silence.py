import copy
import itertools
import unittest

from reckoning import FAR, any_fate, stream_of_signs, taken, with_turns
from stormpost.cells import sealed
from stormpost.fates import breach
from stormpost.silence import broken_by, is_shown
from wires import MEASURES, Wire, unfit_fate, weather

SEALED = sealed(list(range(40, 58)))
MENDABLE = with_turns(SEALED, [(3, 5), (20, 96)])
UNREADABLE = with_turns(SEALED, [(0, 1), (9, 2), (23, 3)])
WORSE = with_turns(SEALED, [(0, 1), (9, 2), (10, 7), (23, 3)])
FIT = ((1, ((0, 1), (5, 1), (6, 1))), (1, ((2, 2), (3, 3))))
UNFITS = [(), ((1, ((0, 1), (5, 1), (6, 1))),), ((1, ((0, 1), (1, 1), (2, 1), (3, 1))),) * 3]


def noise(many):
    """Ticks that bring nothing, or nothing readable."""
    rows = [[], [UNREADABLE], [], [WORSE, UNREADABLE], []]
    return [[list(cell) for cell in rows[tick % 5]] for tick in range(many)]


class IsShownTest(unittest.TestCase):
    def test_quiet_ticks_in_a_row(self):
        for quiet in range(1, 11):
            came = noise(20)
            for first, last in itertools.product(range(-3, 24), repeat=2):
                answer = last - first + 1 == quiet and first >= 0 and last <= 19
                self.assertIs(is_shown(came, quiet, first, last), answer, (quiet, first, last))

    def test_a_readable_cell_at_each_tick(self):
        for quiet, cell in itertools.product(range(1, 11), (SEALED, MENDABLE)):
            for tick in range(16):
                came = noise(16)
                came[tick].append(cell)
                came[tick].append(UNREADABLE)
                for first in range(16 - quiet + 1):
                    last = first + quiet - 1
                    answer = not first <= tick <= last
                    self.assertIs(is_shown(came, quiet, first, last), answer, (quiet, first, tick))

    def test_all_that_is_told(self):
        for quiet in range(1, 11):
            came = noise(quiet)
            self.assertIs(is_shown(came, quiet, 0, quiet - 1), True)
            self.assertIs(is_shown(came[:-1], quiet, 0, quiet - 1), False)
            self.assertIs(is_shown(came, quiet, 1, quiet), False)
            self.assertIs(is_shown(came, quiet, -1, quiet - 2), False)
            self.assertIs(is_shown([], quiet, 0, quiet - 1), False)

    def test_below_nought_is_not_told(self):
        came = noise(30)
        for quiet in range(1, 11):
            for last in range(-31, 0):
                self.assertIs(is_shown(came, quiet, last - quiet + 1, last), False)

    def test_far_numbers(self):
        came = noise(12)
        for first, last in (
            (FAR, FAR + 3), (-FAR, -FAR + 3), (0, FAR), (-FAR, FAR), (FAR, 3), (3, -FAR), (-FAR, 3), (FAR, -FAR),
        ):
            self.assertIs(is_shown(came, 4, first, last), False)
            self.assertIs(is_shown([], 4, first, last), False)

    def test_too_few_and_too_many_ticks(self):
        came = noise(30)
        for quiet in range(2, 11):
            for many in (1, quiet - 1, quiet + 1, quiet + 2, 2 * quiet, 30):
                if many != quiet:
                    self.assertIs(is_shown(came, quiet, 0, many - 1), False)
            self.assertIs(is_shown(came, quiet, 10, 9), False)
            self.assertIs(is_shown(came, quiet, 10 + quiet, 10), False)

    def test_what_is_handed_in_stays(self):
        came = noise(9)
        came[4].append(MENDABLE)
        before = copy.deepcopy(came)
        for first in range(7):
            answer = is_shown(came, 3, first, first + 2)
            self.assertIs(is_shown(came, 3, first, first + 2), answer)
        self.assertEqual(came, before)


class BrokenByTest(unittest.TestCase):
    def fates_but(self, many, fit):
        return [FIT if place in fit else UNFITS[place % 3] for place in range(many)]

    def test_the_fates_of_the_cells_that_could_come_then_alone(self):
        for late, lost in MEASURES:
            fates = self.fates_but(12, ())
            for first, last in itertools.product(range(-8, 24), repeat=2):
                places = range(first - 1, last - late + 1)
                answer = len(places) == lost + 1 and places[0] >= 0 and places[-1] <= 11
                self.assertIs(broken_by(fates, (late, lost), first, last), answer, (late, lost, first, last))

    def test_just_lost_and_one_more_unfit_fates(self):
        for late, lost in MEASURES:
            for begin in range(1, 9):
                first, last = begin + 1, begin + late + lost
                unfit = range(begin, begin + lost + 1)
                fit = [place for place in range(20) if place not in unfit]
                self.assertIs(broken_by(self.fates_but(20, fit), (late, lost), first, last), True)
                # With just lost of them unfit, whichever is fit.
                for place in unfit:
                    self.assertIs(broken_by(self.fates_but(20, fit + [place]), (late, lost), first, last), False)
                for place in (begin - 1, begin + lost + 1):
                    fates = self.fates_but(20, [other for other in fit if other != place])
                    self.assertIs(broken_by(fates, (late, lost), first, last), True)

    def test_the_first_and_the_last_fates_that_are_told(self):
        for late, lost in MEASURES:
            fates = self.fates_but(lost + 1, ())
            self.assertIs(broken_by(fates, (late, lost), 1, late + lost), True)
            self.assertIs(broken_by(fates, (late, lost), 0, late + lost - 1), False)
            self.assertIs(broken_by(fates, (late, lost), 2, late + lost + 1), False)
            self.assertIs(broken_by(fates[1:], (late, lost), 1, late + lost), False)
            self.assertIs(broken_by([], (late, lost), 1, late + lost), False)

    def test_too_few_and_too_many(self):
        for late, lost in MEASURES:
            fates = self.fates_but(40, ())
            for more in (-lost - 2, -lost - 1, -lost, -2, -1, 1, 2, 9):
                answer = more == 0
                self.assertIs(broken_by(fates, (late, lost), 5, 4 + late + lost + more), answer)

    def test_below_nought_and_far(self):
        for late, lost in MEASURES:
            fates = self.fates_but(40, ())
            for first in list(range(-45, 1)) + [FAR, -FAR]:
                self.assertIs(broken_by(fates, (late, lost), first, first + late + lost - 1), False)
            for first, last in ((1, FAR), (-FAR, late + lost), (FAR, -FAR), (-FAR, FAR), (FAR, 1), (1, -FAR)):
                self.assertIs(broken_by(fates, (late, lost), first, last), False)

    def test_what_is_handed_in_stays(self):
        fates = self.fates_but(9, (2, 3))
        before = copy.deepcopy(fates)
        for first in range(9):
            answer = broken_by(fates, (1, 1), first, first + 1)
            self.assertIs(broken_by(fates, (1, 1), first, first + 1), answer)
        self.assertEqual(fates, before)


class StormTest(unittest.TestCase):
    def test_a_told_silence_shows_a_breach(self):
        told = 0
        for place, measure in enumerate(MEASURES):
            signs = stream_of_signs(21000 + place)
            wire = Wire(self, measure)
            wire.run(300, weather(signs, measure[0]), weather(signs, measure[0]), signs)
            for side in (0, 1):
                for tick, (word, pair, first, last) in wire.told_of(side, "silent"):
                    fates = wire.fates[1 - side]
                    self.assertEqual(last, tick)
                    self.assertIs(is_shown(wire.came[side], sum(measure), first, last), True)
                    self.assertIs(broken_by(fates, measure, first, last), True)
                    self.assertEqual(breach(fates[first - 1:last], measure), 0)
                    # One tick of it more or less, or beside it, is something else.
                    self.assertIs(is_shown(wire.came[side], sum(measure), first, last + 1), False)
                    self.assertIs(is_shown(wire.came[side], sum(measure), first + 1, last), False)
                    self.assertIs(broken_by(fates, measure, first - 1, last), False)
                    self.assertIs(broken_by(fates, measure, first, last - 1), False)
                    told += 1
        self.assertGreater(told, 100)

    def test_drawn_ticks_and_fates(self):
        shown = broken = 0
        for place, measure in enumerate(MEASURES):
            late, lost = measure
            signs = stream_of_signs(23000 + place)
            fates = [any_fate(signs, late) if next(signs) % 8 == 0 else unfit_fate(signs, late) for i in range(60)]
            came = [[] for tick in range(60 + late)]
            heard = [False] * (60 + late)
            for tick, fate in enumerate(fates):
                cell = sealed(taken(signs, 18))
                for delay, turns in fate:
                    came[tick + delay].append(with_turns(cell, turns))
                    heard[tick + delay] = heard[tick + delay] or len(turns) <= 2
            fit = [any(len(turns) <= 2 for delay, turns in fate) for fate in fates]
            for first in range(1, 61 - lost):
                last = first + late + lost - 1
                silent = not any(heard[first:last + 1])
                unfit = not any(fit[first - 1:first + lost])
                self.assertIs(is_shown(came, late + lost, first, last), silent)
                self.assertIs(broken_by(fates, measure, first, last), unfit)
                self.assertTrue(unfit or not silent)
                shown += silent
                broken += unfit and not silent
        self.assertGreater(min(shown, broken), 10, (shown, broken))


if __name__ == "__main__":
    unittest.main()
