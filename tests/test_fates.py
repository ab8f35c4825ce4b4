import copy
import itertools
import unittest

from reckoning import FAR
from stormpost.errors import BadFate, BadMeasure
from stormpost.fates import breach, is_fit, keeps, longest_silence, look_fate, quiet_of

MEASURES = list(itertools.product(range(1, 7), range(5)))
BAD_LATES = (0, 7, -1, -6, 8, FAR, -FAR)
BAD_LOSTS = (5, -1, 6, -4, FAR, -FAR)
BAD_MEASURES = (
    [(late, lost) for late in BAD_LATES for lost in range(5)]
    + [(late, lost) for late in range(1, 7) for lost in BAD_LOSTS]
    + list(itertools.product(BAD_LATES, BAD_LOSTS))
)
# Turns at the bounds of places and adds, none to four of them.
TURNS = [
    (),
    ((0, 1),), ((0, 96),), ((23, 1),), ((23, 96),), ((11, 48),),
    ((0, 96), (23, 1)), ((0, 1), (1, 96)), ((22, 1), (23, 1)),
    ((0, 1), (1, 1), (2, 1)), ((0, 96), (12, 1), (23, 96)), ((21, 5), (22, 5), (23, 5)),
    ((0, 1), (1, 2), (2, 3), (3, 4)), ((20, 96), (21, 96), (22, 96), (23, 96)), ((0, 1), (7, 7), (8, 96), (23, 1)),
]
FIT = ((1, ()),)
FITS = [FIT, ((1, ((0, 1), (1, 1))),), ((1, ((0, 1),)), (1, TURNS[-1])), ((1, TURNS[9]), (1, TURNS[12]), (1, ()))]
UNFITS = [(), ((1, TURNS[9]),), ((1, TURNS[12]),), ((1, TURNS[9]), (1, TURNS[10]), (1, TURNS[13]))]


def row_of(pattern):
    """A row of fates, fit where the pattern has True, of several kinds by turns."""
    return [(FITS if fit else UNFITS)[i % 4] for i, fit in enumerate(pattern)]


def breach_of(pattern, lost):
    """As the document words it, of a row of True where a fate is fit."""
    for place in range(len(pattern) - lost):
        if not any(pattern[place:place + lost + 1]):
            return place
    return None


class LookFateTest(unittest.TestCase):
    def refused(self, fate, late):
        with self.subTest(fate=fate, late=late), self.assertRaises(BadFate):
            look_fate(fate, late)

    def test_nought_to_three_arrivals_with_nought_to_four_turns(self):
        for late in range(1, 7):
            self.assertIsNone(look_fate((), late))
            for delay, turns in itertools.product(range(1, late + 1), TURNS):
                self.assertIsNone(look_fate(((delay, turns),), late))
                self.assertIsNone(look_fate(((late, turns), (delay, turns)), late))
                self.assertIsNone(look_fate(((delay, turns), (1, ()), (late, turns)), late))

    def test_each_place_and_each_add(self):
        for place, add in itertools.product(range(24), range(1, 97)):
            self.assertIsNone(look_fate(((1, ((place, add),)),), 1))

    def test_each_row_of_rising_places(self):
        for many in range(5):
            for places in itertools.combinations((0, 1, 2, 11, 21, 22, 23), many):
                self.assertIsNone(look_fate(((1, tuple((place, 96) for place in places)),), 1))

    def test_alike_arrivals_in_any_order_of_delays(self):
        self.assertIsNone(look_fate((FIT[0], FIT[0], FIT[0]), 1))
        for delays in itertools.product(range(1, 7), repeat=3):
            self.assertIsNone(look_fate(tuple((delay, ()) for delay in delays), 6))

    def test_a_fourth_arrival(self):
        for late in range(1, 7):
            for many in (4, 5, 9):
                self.refused(((1, ()),) * many, late)
                self.refused(((late, TURNS[-1]),) * many, late)

    def test_a_delay_beyond(self):
        for late in range(1, 7):
            for delay in (0, late + 1, late + 2, -1, -late, FAR, -FAR):
                for turns in ((), TURNS[-1]):
                    self.refused(((delay, turns),), late)
                    self.refused(((1, ()), (delay, turns)), late)
                    self.refused(((1, ()), (delay, turns), (late, ())), late)
                    self.refused(((1, ()), (late, ()), (delay, turns)), late)

    def test_five_turns(self):
        for many in (5, 6, 24):
            turns = tuple((place, 1) for place in range(many))
            self.everywhere_refused(turns)

    def test_places_alike_or_falling(self):
        for places in (
            (0, 0), (23, 23), (1, 0), (23, 0), (5, 6, 6), (5, 6, 5), (5, 5, 6), (6, 5, 7),
            (1, 2, 3, 3), (1, 2, 3, 2), (1, 2, 3, 0), (1, 3, 2, 4), (2, 1, 3, 4), (4, 3, 2, 1),
        ):
            self.everywhere_refused(tuple((place, 1) for place in places))

    def test_places_beyond(self):
        for place in (24, 25, FAR):
            self.everywhere_refused(((place, 1),))
            self.everywhere_refused(((0, 1), (place, 1)))
            self.everywhere_refused(((0, 1), (1, 1), (2, 1), (place, 1)))
        for place in (-1, -23, -24, -FAR):
            self.everywhere_refused(((place, 1),))
            self.everywhere_refused(((place, 1), (23, 1)))
            self.everywhere_refused(((0, 1), (place, 1)))

    def test_adds_beyond(self):
        for add in (0, 97, 98, -1, -96, -97, FAR, -FAR):
            self.everywhere_refused(((0, add),))
            self.everywhere_refused(((23, add),))
            self.everywhere_refused(((0, 1), (23, add)))
            self.everywhere_refused(((0, add), (1, 1), (2, 1), (3, 1)))
            self.everywhere_refused(((0, 1), (1, 1), (2, 1), (3, add)))

    def everywhere_refused(self, turns):
        for late in (1, 6):
            self.refused(((1, turns),), late)
            self.refused(((1, ()), (late, turns)), late)
            self.refused(((1, turns), (late, ()), (1, ())), late)
            self.refused(((1, ()), (late, ()), (1, turns)), late)


class FitTest(unittest.TestCase):
    def test_two_turns_and_three(self):
        for turns in TURNS:
            for delay in (1, 6):
                self.assertIs(is_fit(((delay, turns),)), len(turns) <= 2)

    def test_no_arrival(self):
        self.assertIs(is_fit(()), False)

    def test_one_of_several_arrivals(self):
        for rows in itertools.product(TURNS, repeat=2):
            self.assertIs(is_fit(((2, rows[0]), (1, rows[1]))), min(map(len, rows)) <= 2)

    def test_a_fit_one_behind_unfit_ones(self):
        for fit in TURNS[:9]:
            self.assertIs(is_fit(((1, TURNS[9]), (1, TURNS[12]), (1, fit))), True)
            self.assertIs(is_fit(((1, TURNS[9]), (1, fit), (1, TURNS[12]))), True)
            self.assertIs(is_fit(((1, fit), (1, TURNS[9]), (1, TURNS[12]))), True)
        self.assertIs(is_fit(((1, TURNS[9]), (1, TURNS[12]), (1, TURNS[10]))), False)


class BreachTest(unittest.TestCase):
    def tells(self, pattern, lost, answer):
        for late in (1, 6):
            fates = row_of(pattern)
            self.assertEqual(breach(fates, (late, lost)), answer, (pattern, lost))
            self.assertIs(keeps(fates, (late, lost)), answer is None)

    def test_no_fates(self):
        for lost in range(5):
            self.tells([], lost, None)

    def test_just_lost_in_a_row(self):
        for lost in range(5):
            gap = [False] * lost
            self.tells(gap, lost, None)
            self.tells(gap + [True, True], lost, None)
            self.tells([True, True] + gap + [True], lost, None)
            self.tells([True] + gap, lost, None)
            self.tells((gap + [True]) * 3 + gap, lost, None)

    def test_one_more_in_a_row(self):
        for lost in range(5):
            gap = [False] * (lost + 1)
            self.tells(gap, lost, 0)
            self.tells(gap + [True, True], lost, 0)
            self.tells([True, True] + gap + [True], lost, 2)
            self.tells([True] + gap, lost, 1)
            self.tells([True] + gap[:-1] + [True] + gap, lost, lost + 2)

    def test_the_least_place_of_several(self):
        for lost in range(5):
            gap = [False] * (lost + 1)
            self.tells([True] + gap + [True] + gap, lost, 1)
            self.tells([True, True, True] + gap + gap + [True] + gap, lost, 3)
            self.tells(gap * 4, lost, 0)

    def test_all_short_rows(self):
        for length in range(9):
            for pattern in itertools.product((True, False), repeat=length):
                for lost in range(5):
                    self.assertEqual(breach(row_of(pattern), (3, lost)), breach_of(pattern, lost))

    def test_place_nought_is_a_breach(self):
        self.assertEqual(breach([()], (1, 0)), 0)
        self.assertIs(keeps([()], (1, 0)), False)


class SilenceTest(unittest.TestCase):
    def test_quiet(self):
        for late, lost in MEASURES:
            self.assertEqual(quiet_of((late, lost)), late + lost)

    def fit_ticks(self, fates):
        return {
            given + delay for given, fate in enumerate(fates) for delay, turns in fate if len(turns) <= 2
        }

    def has_silence(self, fates, quiet):
        ticks = self.fit_ticks(fates)
        return any(
            tick + quiet in ticks and not any(tick + i in ticks for i in range(1, quiet)) for tick in ticks
        )

    def test_longest_silence_of_all_measures(self):
        self.assertEqual(len(MEASURES), 30)
        for late, lost in MEASURES:
            fates = longest_silence((late, lost))
            self.assertIsInstance(fates, list)
            for fate in fates:
                self.assertIsInstance(fate, tuple)
                self.assertIsNone(look_fate(fate, late))
            self.assertIsNone(breach_of([is_fit(fate) for fate in fates], lost))
            self.assertIs(keeps(fates, (late, lost)), True)
            self.assertTrue(self.has_silence(fates, late + lost), (late, lost))

    def test_the_silence_stands_whatever_is_given_later(self):
        for late, lost in MEASURES:
            fates = longest_silence((late, lost))
            for later in (FIT, ((late, ()),)):
                longer = fates + [later] * 12
                self.assertIs(keeps(longer, (late, lost)), True)
                self.assertTrue(self.has_silence(longer, late + lost), (late, lost))


class RefusalsTest(unittest.TestCase):
    def test_measures_beyond(self):
        for measure in BAD_MEASURES:
            for ask in (
                lambda: quiet_of(measure),
                lambda: longest_silence(measure),
                lambda: breach([], measure),
                lambda: breach([FIT, (), FIT], measure),
                lambda: keeps([], measure),
                lambda: keeps([FIT, (), FIT], measure),
                lambda: keeps([()] * 9, measure),
            ):
                with self.subTest(measure=measure), self.assertRaises(BadMeasure):
                    ask()


class OwnershipTest(unittest.TestCase):
    def test_what_is_handed_in_stays(self):
        fates = [FIT, (), ((1, TURNS[12]),), FIT]
        then = copy.deepcopy(fates)
        for measure in MEASURES:
            breach(fates, measure)
            keeps(fates, measure)
        self.assertEqual(fates, then)

    def test_what_is_told_is_the_askers_own(self):
        for measure in MEASURES:
            told = longest_silence(measure)
            then = list(told)
            told[0] = ()
            told.append(())
            self.assertEqual(longest_silence(measure), then)
            kept = longest_silence(measure)
            longest_silence((6, 4))
            self.assertEqual(kept, then)


if __name__ == "__main__":
    unittest.main()
