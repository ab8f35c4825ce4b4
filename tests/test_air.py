import itertools
import unittest

from reckoning import FAR, NO_SIGNS, any_fate, bad_lists, picked, stream_of_signs, taken, with_turns
from stormpost.air import Air
from stormpost.cells import sealed
from stormpost.errors import BadCell, BadFate, BadMeasure
from stormpost.fates import is_fit, keeps, longest_silence, quiet_of
from stormpost.mending import is_readable, mended

PLAIN = ((1, ()),)


def cell_of(number):
    return [number % 97] * 24


def numbers(cells):
    return [cell[0] for cell in cells]


class ComeTest(unittest.TestCase):
    def test_nothing_given(self):
        air = Air(6)
        for tick in range(9):
            self.assertEqual(air.come(tick), [])
            self.assertEqual(air.flying(), 0)

    def test_comes_delay_ticks_behind(self):
        for late in range(1, 7):
            for delay in range(1, late + 1):
                air = Air(late)
                came = []
                for tick in range(12):
                    came.append(air.come(tick))
                    if tick == 3:
                        self.assertIsNone(air.give(cell_of(7), ((delay, ()),), tick))
                self.assertEqual(came, [[cell_of(7)] if tick == 3 + delay else [] for tick in range(12)])

    def test_a_lost_cell_never_comes(self):
        air = Air(6)
        air.come(0)
        self.assertIsNone(air.give(cell_of(1), (), 0))
        self.assertEqual(air.flying(), 0)
        self.assertEqual([air.come(tick) for tick in range(1, 9)], [[]] * 8)

    def test_given_earlier_comes_first(self):
        air = Air(6)
        for tick in range(6):
            self.assertEqual(air.come(tick), [])
            air.give(cell_of(tick), ((6 - tick, ()),), tick)
        self.assertEqual(numbers(air.come(6)), [0, 1, 2, 3, 4, 5])

    def test_given_earlier_comes_first_with_some_between(self):
        air = Air(3)
        air.come(0)
        air.give(cell_of(10), ((3, ()), (1, ())), 0)
        self.assertEqual(numbers(air.come(1)), [10])
        air.give(cell_of(11), ((1, ()), (2, ())), 1)
        self.assertEqual(numbers(air.come(2)), [11])
        air.give(cell_of(12), ((1, ()),), 2)
        self.assertEqual(numbers(air.come(3)), [10, 11, 12])

    def test_two_cells_given_in_one_tick(self):
        air = Air(2)
        air.come(0)
        air.give(cell_of(9), ((2, ()),), 0)
        air.give(cell_of(3), ((2, ()), (1, ())), 0)
        self.assertEqual(numbers(air.come(1)), [3])
        self.assertEqual(numbers(air.come(2)), [9, 3])

    def test_arrivals_of_one_cell_in_their_order(self):
        turns = [((0, 3),), (), ((0, 2),)]
        for order in itertools.permutations(turns):
            air = Air(2)
            air.come(0)
            air.give(cell_of(0), tuple((2, row) for row in order), 0)
            self.assertEqual(air.come(1), [])
            self.assertEqual(air.come(2), [with_turns(cell_of(0), row) for row in order])

    def test_arrivals_in_unlike_ticks_told_in_any_order(self):
        air = Air(6)
        air.come(0)
        air.give(cell_of(0), ((5, ((0, 5),)), (2, ((0, 2),)), (5, ((0, 6),))), 0)
        self.assertEqual([numbers(air.come(tick)) for tick in range(1, 7)], [[], [2], [], [], [5, 6], []])

    def test_turns_are_added_by_rests(self):
        for sign, add in itertools.product((0, 1, 48, 95, 96), (1, 2, 49, 95, 96)):
            for places in ((0,), (23,), (0, 23), (0, 7, 22, 23)):
                air = Air(1)
                air.come(0)
                air.give([sign] * 24, ((1, tuple((place, add) for place in places)),), 0)
                answer = [(sign + add) % 97 if place in places else sign for place in range(24)]
                self.assertEqual(air.come(1), [answer])

    def test_each_turn_has_its_own_place_and_add(self):
        air = Air(1)
        air.come(0)
        cell = list(range(70, 94))
        air.give(cell, ((1, ((0, 1), (5, 96), (22, 4), (23, 5))),), 0)
        came = air.come(1)
        self.assertEqual(came, [[71] + list(range(71, 75)) + [74] + list(range(76, 92)) + [96, 1]])

    def test_cells_that_are_not_sealed_come_too(self):
        air = Air(1)
        air.come(0)
        air.give(list(range(24)), PLAIN, 0)
        self.assertEqual(air.come(1), [list(range(24))])


class FlyingTest(unittest.TestCase):
    def test_ahead_of_between_and_behind_the_ticks(self):
        air = Air(6)
        self.assertEqual(air.flying(), 0)
        air.come(0)
        self.assertEqual(air.flying(), 0)
        air.give(cell_of(1), ((1, ()), (1, ()), (6, ())), 0)
        self.assertEqual(air.flying(), 3)
        air.give(cell_of(2), ((2, ()),), 0)
        self.assertEqual(air.flying(), 4)
        air.come(1)
        self.assertEqual(air.flying(), 2)
        air.give(cell_of(3), (), 1)
        air.give(cell_of(4), ((1, ()),), 1)
        self.assertEqual(air.flying(), 3)
        air.come(2)
        self.assertEqual(air.flying(), 1)
        for tick in (3, 4, 5):
            air.come(tick)
            self.assertEqual(air.flying(), 1)
        self.assertEqual(len(air.come(6)), 1)
        self.assertEqual(air.flying(), 0)
        air.come(7)
        self.assertEqual(air.flying(), 0)

    def test_asked_twice_tells_alike(self):
        air = Air(3)
        air.come(0)
        air.give(cell_of(1), ((1, ()), (3, ())), 0)
        self.assertEqual((air.flying(), air.flying()), (2, 2))
        air.come(1)
        self.assertEqual((air.flying(), air.flying()), (1, 1))


class LongRunTest(unittest.TestCase):
    def test_as_a_plain_list_of_all_arrivals_tells(self):
        for late in range(1, 7):
            signs = stream_of_signs(50 + late)
            air = Air(late)
            arrivals = []
            for tick in range(120):
                due = [cell for when, cell in arrivals if when == tick]
                self.assertEqual(air.come(tick), due)
                self.assertEqual(air.flying(), len([when for when, cell in arrivals if when > tick]))
                for i in range(next(signs) % 3):
                    cell, fate = taken(signs, 24), any_fate(signs, late)
                    air.give(cell, fate, tick)
                    arrivals.extend((tick + delay, with_turns(cell, turns)) for delay, turns in fate)
                self.assertEqual(air.flying(), len([when for when, cell in arrivals if when > tick]))

    def readable_ticks(self, late, fates, many):
        """For the ticks below many, whether a readable cell comes where a sealed one is given in each."""
        air = Air(late)
        ticks = []
        for tick in range(many):
            came = air.come(tick)
            ticks.append(any(is_readable(cell) for cell in came))
            for cell in came:
                self.assertIn(mended(cell), (None, sealed([tick % 2] * 18), sealed([1 - tick % 2] * 18)))
            air.give(sealed([tick % 2] * 18), fates[tick], tick)
        return ticks

    def kept_fates(self, signs, late, lost, many):
        """Any fates that keep the measure, with as many unfit ones in a row as it lets now and then."""
        fates = []
        unfit = 0
        while len(fates) < many:
            fate = any_fate(signs, late) if next(signs) % 3 else ()
            if not is_fit(fate) and unfit == lost:
                fate = ((late, ()),)
            unfit = 0 if is_fit(fate) else unfit + 1
            fates.append(fate)
        return fates

    def test_a_readable_one_comes_in_any_quiet_ticks(self):
        signs = stream_of_signs(61)
        for late, lost in itertools.product((1, 2, 6), (0, 1, 4)):
            quiet = quiet_of((late, lost))
            fates = self.kept_fates(signs, late, lost, 60)
            self.assertTrue(keeps(fates, (late, lost)))
            ticks = self.readable_ticks(late, fates, 60)
            for first in range(1, 60 - quiet):
                self.assertTrue(any(ticks[first:first + quiet]), (late, lost, first))

    def test_the_longest_silence_is_heard(self):
        for late, lost in itertools.product(range(1, 7), range(5)):
            quiet = quiet_of((late, lost))
            fates = longest_silence((late, lost)) + [PLAIN] * 20
            ticks = self.readable_ticks(late, fates, 20)
            silence = [True] + [False] * (quiet - 1) + [True]
            rows = [ticks[first:first + quiet + 1] for first in range(20)]
            self.assertIn(silence, rows, (late, lost))


class RefusalsTest(unittest.TestCase):
    def test_late_beyond(self):
        for late in (0, 7, -1, -6, 8, FAR, -FAR):
            with self.subTest(late=late), self.assertRaises(BadMeasure):
                Air(late)

    def begun(self):
        air = Air(2)
        air.come(0)
        air.give(cell_of(1), ((1, ()), (2, ())), 0)
        self.assertEqual(numbers(air.come(1)), [1])
        return air

    def goes_on(self, air):
        """What was given ahead of a refusal comes as if nothing had been asked."""
        self.assertEqual(air.flying(), 1)
        self.assertEqual(numbers(air.come(1)), [1])
        air.give(cell_of(2), PLAIN, 1)
        self.assertEqual(numbers(air.come(2)), [1, 2])
        self.assertEqual([air.come(3), air.come(4), air.flying()], [[], [], 0])

    def test_no_cell(self):
        for cell in bad_lists(24):
            air = self.begun()
            for fate in (PLAIN, (), ((3, ()),), ((1, ((0, 97),)),)):
                before = list(cell)
                with self.subTest(cell=cell, fate=fate), self.assertRaises(BadCell):
                    air.give(cell, fate, 1)
                self.assertEqual(cell, before)
            self.goes_on(air)

    def test_no_fate(self):
        good = (1, ())
        for fate in (
            (good, good, good, good), ((0, ()),), ((3, ()),), (good, good, (3, ())), (good, (-1, ())), ((FAR, ()),),
            (good, (1, tuple((place, 1) for place in range(5)))), (good, (2, ((4, 1), (4, 1)))),
            (good, (2, ((4, 1), (3, 1)))), (good, (2, ((24, 1),))), (good, (2, ((-1, 1),))),
            (good, (2, ((0, 0),))), (good, (2, ((0, 97),))), (good, (2, ((0, FAR),))), (good, (2, ((0, -1),))),
        ):
            air = self.begun()
            with self.subTest(fate=fate), self.assertRaises(BadFate):
                air.give(cell_of(5), fate, 1)
            self.goes_on(air)

    def test_each_late_bounds_its_own_fates(self):
        for late in range(1, 7):
            air = Air(late)
            air.come(0)
            with self.assertRaises(BadFate):
                air.give(cell_of(1), ((late + 1, ()),), 0)
            air.give(cell_of(1), ((late, ()),), 0)
            self.assertEqual(air.flying(), 1)

    def test_a_bad_cell_is_told_ahead_of_a_bad_fate(self):
        air = self.begun()
        for number in NO_SIGNS:
            with self.assertRaises(BadCell):
                air.give([0] * 23 + [number], ((0, ()),), 1)
        with self.assertRaises(BadCell):
            air.give([], (PLAIN[0],) * 4, 1)
        self.goes_on(air)


class OwnershipTest(unittest.TestCase):
    def test_two_objects_are_apart(self):
        one, other = Air(6), Air(6)
        one.come(0)
        other.come(0)
        one.give(cell_of(1), PLAIN, 0)
        self.assertEqual((one.flying(), other.flying()), (1, 0))
        self.assertEqual((one.come(1), other.come(1)), ([cell_of(1)], []))
        other.give(cell_of(2), ((6, ()),), 1)
        self.assertEqual((one.flying(), other.flying()), (0, 1))
        third = Air(2)
        self.assertEqual((third.flying(), third.come(0), third.come(1)), (0, [], []))

    def test_a_given_cell_stays_and_may_be_changed_later(self):
        cell = list(range(24))
        air = Air(2)
        air.come(0)
        air.give(cell, ((1, ()), (1, ((0, 5),)), (2, ())), 0)
        self.assertEqual(cell, list(range(24)))
        cell[0] = 90
        cell.append(1)
        self.assertEqual(air.come(1), [list(range(24)), with_turns(range(24), [(0, 5)])])
        cell.clear()
        self.assertEqual(air.come(2), [list(range(24))])

    def test_told_lists_are_the_askers_own(self):
        air = Air(3)
        air.come(0)
        air.give(cell_of(1), ((1, ()), (1, ()), (2, ())), 0)
        told = air.come(1)
        told[0][0] = 50
        told[1].append(51)
        told.append(cell_of(9))
        self.assertEqual(air.come(1), [cell_of(1), cell_of(1)])
        air.come(1).clear()
        self.assertEqual(air.come(1), [cell_of(1), cell_of(1)])
        self.assertEqual(air.come(2), [cell_of(1)])

    def test_an_empty_told_list_is_the_askers_own(self):
        air = Air(3)
        air.come(0).append(cell_of(9))
        self.assertEqual(air.come(0), [])
        self.assertEqual((air.come(1), air.flying()), ([], 0))

    def test_told_cells_share_no_list(self):
        cell = cell_of(1)
        air = Air(3)
        air.come(0)
        air.give(cell, ((1, ()), (1, ()), (2, ())), 0)
        air.give(cell, ((1, ()), (2, ((0, 1),))), 0)
        first, again, second = air.come(1), air.come(1), air.come(2)
        told = [cell] + first + again + second
        self.assertEqual(len({id(row) for row in told}), len(told))
        for row in told:
            row[0] = 60 + row[0]
        self.assertEqual(sorted(numbers(told)), [61] * 8 + [62])

    def test_told_lists_stay_when_more_is_done(self):
        air = Air(2)
        air.come(0)
        air.give(cell_of(1), PLAIN, 0)
        told = air.come(1)
        air.give(cell_of(2), ((1, ()), (2, ())), 1)
        self.assertEqual(air.come(1), [cell_of(1)])
        air.come(2)
        air.come(3)
        self.assertEqual(told, [cell_of(1)])

    def test_told_cells_may_be_given_again(self):
        air = Air(1)
        air.come(0)
        air.give(cell_of(1), ((1, ((0, 1),)),), 0)
        for tick in range(1, 5):
            came = air.come(tick)
            self.assertEqual(numbers(came), [1 + tick])
            air.give(came[0], ((1, ((0, 1),)),), tick)
            came[0][0] = 0


if __name__ == "__main__":
    unittest.main()
