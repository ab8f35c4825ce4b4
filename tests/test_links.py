import itertools
import unittest

from reckoning import FAR, NO_SIGNS, stream_of_signs, sums_of, taken, with_turns
from stormpost.errors import BadMeasure, BadPiece, NoLink
from stormpost.fates import is_fit, keeps
from stormpost.links import LinkEnd
from wires import BOTH_PLAIN, MEASURES, PLAIN, Wire, hardest, kept, longest, plain_up, unfit, weather

BAD_PIECES = (
    [[], [0] * 11, [96] * 12, [5] * 97, [1] * 24]
    + [[number] for number in NO_SIGNS]
    + [[3] * place + [number] + [4] * (9 - place) for place in range(10) for number in NO_SIGNS]
    + [[0] * 10 + [97], [-1] * 11]
)
UNREADABLE = ((0, 1), (5, 2), (23, 96))
MENDABLE = ((0, 96), (23, 1))


def lost_from(side):
    """Fates by which this side's cells are lost, and the other one's come."""
    return ((), PLAIN) if side == 0 else (PLAIN, ())


class PlainWeatherTest(unittest.TestCase):
    def test_one_sealed_cell_a_tick_from_the_first_on(self):
        for measure, side in itertools.product(MEASURES, (0, 1)):
            end = LinkEnd(measure, side)
            for tick in range(12):
                cell = end.tick([])
                self.assertIsInstance(cell, list)
                self.assertEqual(len(cell), 24)
                self.assertTrue(all(0 <= sign <= 96 for sign in cell))
                self.assertEqual(sums_of(cell), [0] * 6)
            self.assertEqual((end.up(), end.waits(), end.events()), (None, 0, []))

    def test_both_come_up_with_the_first_births(self):
        for measure in MEASURES:
            one, other = LinkEnd(measure, 0), LinkEnd(measure, 1)
            self.assertEqual((one.up(), other.up()), (None, None))
            cells = one.tick([]), other.tick([])
            self.assertEqual((one.up(), other.up()), (None, None))
            cells = one.tick([cells[1]]), other.tick([cells[0]])
            self.assertEqual((one.up(), other.up()), (None, None))
            self.assertEqual((one.events(), other.events()), ([], []))
            for tick in range(30):
                cells = one.tick([cells[1]]), other.tick([cells[0]])
                self.assertEqual((one.up(), other.up()), ((1, 1), (1, 1)))
            self.assertEqual((one.events(), other.events()), ([("up", (1, 1))], [("up", (1, 1))]))
            self.assertEqual((one.events(), other.events()), ([], []))

    def test_a_road_that_is_as_late_as_can_be(self):
        for measure in MEASURES:
            wire = Wire(self, measure)
            slow = ((measure[0], ()),)
            for tick in range(2 * measure[0]):
                wire.tick((slow, slow))
            self.assertEqual(wire.events, ([], []))
            wire.tick((slow, slow))
            self.assertEqual([end.up() for end in wire.ends], [(1, 1), (1, 1)])

    def test_cells_that_are_mended_and_doubled_are_read(self):
        wire = Wire(self, (2, 0))
        fate = ((1, MENDABLE), (1, UNREADABLE), (2, ()))
        for tick in range(20):
            wire.tick((fate, fate))
        self.assertEqual(wire.events, ([(2, ("up", (1, 1)))], [(2, ("up", (1, 1)))]))

    def test_an_end_that_reads_nothing_is_not_up_and_keeps_its_birth(self):
        for measure in MEASURES:
            wire = Wire(self, measure)
            for tick in range(25):
                wire.tick((((1, UNREADABLE),), ()))
            self.assertEqual(wire.events, ([], []))
            for tick in range(3):
                wire.tick()
            self.assertEqual([end.up() for end in wire.ends], [(1, 1), (1, 1)])

    def test_an_end_is_not_up_by_being_heard_of_alone(self):
        # Side 1 hears all, but what it gives never comes: so side 0 never tells its birth.
        wire = Wire(self, (3, 2))
        for tick in range(60):
            wire.tick((PLAIN, ()))
        self.assertEqual(wire.events, ([], []))


class MeasureTest(unittest.TestCase):
    def test_measures_beyond_their_bounds(self):
        bad_lates, bad_losts = (0, 7, -1, 8, FAR, -FAR), (5, -1, 6, FAR, -FAR)
        for measure in (
            [(late, lost) for late in bad_lates for lost in range(5)]
            + [(late, lost) for late in range(1, 7) for lost in bad_losts]
            + list(itertools.product(bad_lates, bad_losts))
        ):
            for side in (0, 1):
                with self.subTest(measure=measure), self.assertRaises(BadMeasure):
                    LinkEnd(measure, side)


class PutTest(unittest.TestCase):
    def refuses_no_link(self, end):
        for piece in [[1], [96] * 10] + BAD_PIECES:
            before = list(piece)
            with self.subTest(piece=piece), self.assertRaises(NoLink):
                end.put(piece)
            self.assertEqual(piece, before)
        self.assertEqual((end.up(), end.waits()), (None, 0))

    def test_where_it_is_not_up(self):
        wire = Wire(self, (2, 1))
        for tick in range(2):
            for end in wire.ends:
                self.refuses_no_link(end)
            wire.tick()
        for end in wire.ends:
            self.refuses_no_link(end)
        wire.tick()
        wire.put(0, [1])
        wire.put(1, [2])
        for tick in range(2):
            wire.tick()
        self.assertEqual((wire.took[0], wire.took[1]), ({(1, 1): [[2]]}, {(1, 1): [[1]]}))

    def test_behind_an_up_that_ended(self):
        wire = plain_up(self, (2, 1))
        wire.put(1, [5])
        for tick in range(4):
            wire.tick(lost_from(0))
        self.assertEqual(wire.events[1][-1][1][0], "silent")
        self.refuses_no_link(wire.ends[1])
        wire.tick(lost_from(0))
        self.assertEqual(wire.events[0][-1][1], ("anew", (1, 1)))
        self.refuses_no_link(wire.ends[0])

    def test_pieces_that_are_none(self):
        wire = plain_up(self, (2, 1))
        wire.put(0, [7, 8])
        for piece in BAD_PIECES:
            for end, waits in zip(wire.ends, (1, 0)):
                before = list(piece)
                with self.subTest(piece=piece), self.assertRaises(BadPiece):
                    end.put(piece)
                self.assertEqual(piece, before)
                self.assertEqual((end.up(), end.waits(), end.events()), ((1, 1), waits, []))
        wire.put(0, [9])
        for tick in range(8):
            wire.tick()
        self.assertEqual(wire.took, ({}, {(1, 1): [[7, 8], [9]]}))

    def test_pieces_of_each_length_and_each_sign(self):
        wire = plain_up(self, (1, 0))
        pieces = [[sign] * many for many in range(1, 11) for sign in (0, 1, 96)]
        pieces += [[sign] for sign in range(97)] + [list(range(k, k + 10)) for k in range(0, 88, 10)] + [[0] * 10] * 3
        for piece in pieces:
            wire.put(0, piece)
            wire.put(1, list(reversed(piece)))
        for tick in range(2 * len(pieces) + 1):
            wire.tick()
        self.assertEqual(wire.took[1], {(1, 1): pieces})
        self.assertEqual(wire.took[0], {(1, 1): [list(reversed(piece)) for piece in pieces]})

    def test_more_pieces_than_numbers_in_cells_tell_apart(self):
        for measure, fate in (((1, 0), PLAIN), ((2, 0), ((1, ()), (2, ()))), ((6, 4), ((1, ()), (3, ()), (6, ())))):
            wire = plain_up(self, measure)
            pieces = [[number % 7, number % 97, number // 97] for number in range(700)]
            for number, piece in enumerate(pieces):
                wire.ends[0].put(piece)
                self.assertEqual(wire.ends[0].waits(), number + 1)
            wire.puts[0][(1, 1)] = pieces
            most = 2 * sum(measure) * len(pieces) + sum(measure)
            wire.tick_until(lambda: wire.ends[0].waits() == 0, (fate, fate), most)
            self.assertEqual(wire.took[1], {(1, 1): pieces})


class WaitsTest(unittest.TestCase):
    def test_ahead_of_between_and_behind(self):
        wire = plain_up(self, (3, 1))
        one, other = wire.ends
        self.assertEqual((one.waits(), other.waits()), (0, 0))
        wire.put(0, [1])
        self.assertEqual((one.waits(), other.waits(), one.waits()), (1, 0, 1))
        wire.put(0, [2])
        self.assertEqual(one.waits(), 2)
        wire.tick()
        # Given, and not taken yet.
        self.assertEqual((one.waits(), wire.took[1]), (2, {}))
        wire.tick()
        # Taken, but that is not known yet.
        self.assertEqual((one.waits(), wire.took[1]), (2, {(1, 1): [[1]]}))
        wire.put(0, [3])
        self.assertEqual(one.waits(), 3)
        wire.tick()
        self.assertEqual(one.waits(), 2)
        for waits in (2, 1, 1, 0, 0):
            wire.tick()
            self.assertEqual((one.waits(), other.waits()), (waits, 0))
        self.assertEqual(wire.took[1], {(1, 1): [[1], [2], [3]]})

    def test_a_piece_waits_till_its_taking_is_heard_of(self):
        wire = plain_up(self, (1, 4))
        wire.put(0, [1])
        wire.tick()
        for tick in range(4):
            wire.tick(lost_from(1))
            self.assertEqual(wire.ends[0].waits(), 1)
        self.assertEqual(wire.took[1], {(1, 1): [[1]]})
        wire.tick()
        self.assertEqual(wire.ends[0].waits(), 1)
        wire.tick()
        self.assertEqual(wire.ends[0].waits(), 0)
        self.assertEqual(wire.took[1], {(1, 1): [[1]]})

    def test_what_was_put_and_not_taken_is_forgotten(self):
        wire = plain_up(self, (1, 1))
        wire.put(0, [1])
        for tick in range(2):
            wire.tick()
        wire.put(0, [2])
        wire.put(0, [3])
        wire.put(1, [4])
        wire.put(1, [5])
        wire.tick_until(lambda: wire.ups[1][-1] is None and wire.ups[0][-1] is None, lost_from(0), 9)
        self.assertEqual([end.waits() for end in wire.ends], [0, 0])
        for tick in range(12):
            wire.tick()
        self.assertEqual([end.up() for end in wire.ends], [(1, 2), (1, 2)])
        self.assertEqual([end.waits() for end in wire.ends], [0, 0])
        wire.put(0, [6])
        wire.put(1, [7])
        for tick in range(6):
            wire.tick()
        self.assertEqual(wire.took[1], {(1, 1): [[1]], (1, 2): [[6]]})
        self.assertEqual(wire.took[0], {(1, 1): [[4]], (1, 2): [[7]]})


class EventsTest(unittest.TestCase):
    def test_in_their_order_and_once(self):
        wire = Wire(self, (2, 1))
        ends = wire.ends
        cells = [ends[0].tick([]), ends[1].tick([])]
        for tick in range(2):
            cells = [ends[0].tick([cells[1]]), ends[1].tick([cells[0]])]
        ends[0].put([1])
        ends[0].put([2, 3])
        for tick in range(4):
            cells = [ends[0].tick([cells[1]]), ends[1].tick([cells[0]])]
        # Side 1 hears nothing from now on, and its events are asked for at last.
        for tick in range(3):
            cells = [ends[0].tick([cells[1]]), ends[1].tick([])]
        up, silent = ("up", (1, 1)), ("silent", (1, 1), 7, 9)
        self.assertEqual(ends[1].events(), [up, ("took", [1]), ("took", [2, 3]), silent])
        self.assertEqual(ends[1].events(), [])
        cells = [ends[0].tick([cells[1]]), ends[1].tick([cells[0]])]
        cells = [ends[0].tick([cells[1]]), ends[1].tick([cells[0]])]
        # The first cell of the new birth ends the old up, the next one begins another.
        self.assertEqual(ends[0].events(), [up, ("anew", (1, 1)), ("up", (1, 2))])
        self.assertEqual(ends[1].events(), [("up", (1, 2))])
        self.assertEqual((ends[0].events(), ends[1].events()), ([], []))

    def test_up_and_took_in_one_tick(self):
        for side in (0, 1):
            wire = Wire(self, (2, 2))
            wire.tick()
            wire.tick(lost_from(side))
            wire.tick(lost_from(side))
            self.assertEqual([end.up() for end in wire.ends], [(1, 1), None] if side == 0 else [None, (1, 1)])
            wire.put(side, [8, 9])
            wire.tick()
            wire.tick()
            self.assertEqual(wire.events[1 - side], [(4, ("up", (1, 1))), (4, ("took", [8, 9]))])
            wire.tick()
            self.assertEqual(wire.ends[side].waits(), 0)

    def test_anew_and_up_in_one_tick(self):
        # Side 1 falls silent; what it gave first with its new birth is lost, so that
        # the first cell that side 0 reads tells that its own birth is known there.
        wire = plain_up(self, (1, 2))
        wire.put(0, [5])
        wire.put(0, [6])
        for tick in range(3):
            wire.tick(lost_from(0))
        wire.tick((PLAIN, ()))
        self.assertEqual(wire.events[1][-1], (6, ("silent", (1, 1), 4, 6)))
        wire.tick()
        wire.tick()
        self.assertEqual(wire.events[0][1:], [(8, ("anew", (1, 1))), (8, ("up", (1, 2)))])
        self.assertEqual([end.waits() for end in wire.ends], [0, 0])
        for tick in range(5):
            wire.tick()
        self.assertEqual([end.up() for end in wire.ends], [(1, 2), (1, 2)])
        self.assertEqual(wire.took, ({}, {}))

    def test_a_late_cell_of_a_lesser_birth_tells_nothing(self):
        # One cell of birth 1 comes behind the first one of birth 2.
        wire = plain_up(self, (6, 0))
        for tick in range(5):
            wire.tick(lost_from(0))
        wire.tick(((), ((1, ()), (6, ()))))
        wire.tick_until(lambda: wire.told_of(0, "anew"), BOTH_PLAIN, 9)
        for tick in range(12):
            wire.tick()
        told = [event for tick, event in wire.events[0]]
        self.assertEqual(told, [("up", (1, 1)), ("anew", (1, 1)), ("up", (1, 2))])
        self.assertEqual(wire.ends[1].up(), (1, 2))


class SilentTest(unittest.TestCase):
    def test_in_the_very_tick_of_its_end(self):
        for measure, side, hold in itertools.product(MEASURES, (0, 1), (0, 1, 4)):
            wire = plain_up(self, measure)
            for tick in range(hold):
                wire.tick()
            quiet = sum(measure)
            # The last cell that comes is given in the tick ahead of this one.
            begin = wire.now
            for tick in range(quiet + 1):
                self.assertEqual(wire.told_of(1 - side, "silent"), [])
                self.assertEqual(wire.ends[1 - side].up(), (1, 1))
                wire.tick(lost_from(side))
            event = ("silent", (1, 1), begin + 1, begin + quiet)
            self.assertEqual(wire.told_of(1 - side, "silent"), [(begin + quiet, event)])
            self.assertIsNone(wire.ends[1 - side].up())

    def test_cells_that_are_not_readable_are_no_sound(self):
        for measure in MEASURES:
            wire = plain_up(self, measure)
            fate = ((1, UNREADABLE), (measure[0], UNREADABLE + ()))
            for tick in range(sum(measure) + 1):
                wire.tick((fate, PLAIN))
            self.assertEqual(wire.told_of(1, "silent"), [(3 + sum(measure), ("silent", (1, 1), 4, 3 + sum(measure)))])

    def test_one_readable_cell_in_quiet_ticks_is_enough(self):
        for measure in MEASURES:
            wire = plain_up(self, measure)
            for turn in range(5):
                for tick in range(sum(measure) - 1):
                    wire.tick(lost_from(0))
                wire.tick((((1, MENDABLE),), PLAIN))
            self.assertEqual((wire.told_of(1, "silent"), wire.ends[1].up()), ([], (1, 1)))

    def test_an_old_cell_is_a_sound_too(self):
        # What was given ahead comes again and again up to late ticks behind.
        wire = plain_up(self, (6, 0))
        wire.tick((((1, ()), (5, ()), (6, ())), PLAIN))
        for tick in range(12):
            wire.tick(lost_from(0))
        self.assertEqual(wire.told_of(1, "silent"), [(15, ("silent", (1, 1), 10, 15))])

    def test_the_up_begins_ahead_of_the_silence(self):
        # Nothing comes behind the cell by which it came up.
        for measure in MEASURES:
            wire = Wire(self, measure)
            wire.tick()
            wire.tick()
            for tick in range(2 + sum(measure)):
                wire.tick(lost_from(0))
            last = 2 + sum(measure)
            self.assertEqual(wire.events[1], [(2, ("up", (1, 1))), (last, ("silent", (1, 1), 3, last))])

    def test_both_fall_silent(self):
        for measure in MEASURES:
            wire = plain_up(self, measure)
            for tick in range(40):
                wire.tick(((), ()))
            event = ("silent", (1, 1), 4, 3 + sum(measure))
            self.assertEqual([wire.told_of(side, "silent") for side in (0, 1)], [[(3 + sum(measure), event)]] * 2)
            for tick in range(3):
                wire.tick()
            self.assertEqual([end.up() for end in wire.ends], [(2, 2), (2, 2)])

    def test_its_birth_is_one_more_each_time(self):
        wire = plain_up(self, (1, 1))
        for turn in range(1, 30):
            self.assertEqual([end.up() for end in wire.ends], [(1, turn), (1, turn)])
            wire.tick_until(lambda: wire.ups[1][-1] is None, lost_from(0), 9)
            for tick in range(4):
                wire.tick()
        self.assertEqual(len(wire.told_of(0, "anew")), 29)
        self.assertEqual(len(wire.told_of(0, "silent")), 0)


class AnewTest(unittest.TestCase):
    def test_where_a_greater_birth_is_told(self):
        for measure, side in itertools.product(MEASURES, (0, 1)):
            wire = plain_up(self, measure)
            for tick in range(sum(measure) + 1):
                wire.tick(lost_from(side))
            # The silence was told in the last tick, and its cell comes now.
            self.assertEqual(wire.told_of(side, "anew"), [])
            wire.tick(lost_from(side))
            self.assertEqual(wire.told_of(side, "anew"), [(wire.now - 1, ("anew", (1, 1)))])
            self.assertIsNone(wire.ends[side].up())
            self.assertEqual(wire.told_of(side, "silent"), [])
            for tick in range(6):
                wire.tick()
            pair = (1, 2) if side == 0 else (2, 1)
            self.assertEqual([end.up() for end in wire.ends], [pair, pair])


class KnowingEndTest(unittest.TestCase):
    def born(self, measure, ticks):
        """Side 1's birth, which knows of side 0, is not up, and reads nothing for so many ticks."""
        wire = Wire(self, measure)
        wire.tick((PLAIN, ()))
        wire.tick(((), ()))
        for tick in range(ticks):
            wire.tick(((), ()) if tick < ticks - 1 else (PLAIN, ()))
        self.assertEqual(wire.events, ([], []))
        for tick in range(4):
            wire.tick()
        pair = wire.ends[0].up()
        self.assertEqual(wire.ends[1].up(), pair)
        self.assertEqual(pair[0], 1)
        return pair[1]

    def test_quiet_ticks_without_a_readable_cell(self):
        for measure in MEASURES:
            quiet = sum(measure)
            self.assertEqual([self.born(measure, ticks) for ticks in range(1, quiet)], [1] * (quiet - 1))
            # Once it starts over it knows none, and so stays as it is.
            self.assertEqual([self.born(measure, quiet + more) for more in (0, 1, 2, 15)], [2] * 4)

    def test_an_end_that_hears_stays_as_it_is(self):
        wire = Wire(self, (1, 1))
        for tick in range(30):
            wire.tick((PLAIN, ()) if tick % 2 else ((), ()))
        for tick in range(4):
            wire.tick()
        self.assertEqual([end.up() for end in wire.ends], [(1, 1), (1, 1)])


class StormTest(unittest.TestCase):
    def look_births(self, wire):
        """Each pair once at an end, births never falling."""
        for side in (0, 1):
            pairs = [event[1] for tick, event in wire.told_of(side, "up")]
            self.assertEqual(len(pairs), len(set(pairs)))
            for one, other in zip(pairs, pairs[1:]):
                self.assertLessEqual(one[0], other[0])
                self.assertLessEqual(one[1], other[1])

    def test_what_is_told_in_all_weather(self):
        seen = {"up": 0, "took": 0, "silent": 0, "anew": 0}
        for place, measure in enumerate(MEASURES):
            for seed in (3000, 5000, 7000):
                signs = stream_of_signs(seed + place)
                wire = Wire(self, measure)
                one, other = weather(signs, measure[0]), weather(signs, measure[0])
                wire.run(250, one, other, signs)
                self.look_births(wire)
                for side, (tick, event) in [(side, row) for side in (0, 1) for row in wire.events[side]]:
                    seen[event[0]] += 1
        self.assertGreater(min(seen.values()), 500, seen)

    def test_quick_wires_in_long_storms(self):
        for measure in ((1, 0), (1, 1), (2, 0)):
            signs = stream_of_signs(4100 + measure[0] + measure[1])
            wire = Wire(self, measure)
            wire.run(2500, weather(signs, measure[0]), weather(signs, measure[0]), signs)
            self.look_births(wire)
            self.assertGreater(max(wire.words[0].birth, wire.words[1].birth), 97)

    def test_births_of_nine_thousand_ticks(self):
        wire = Wire(self, (1, 0))
        for tick in range(8990):
            wire.tick(BOTH_PLAIN if tick % 2 else ((), ()))
        births = (wire.words[0].birth, wire.words[1].birth)
        self.assertGreater(min(births), 4000)
        for tick in range(5):
            wire.tick()
        self.assertEqual([end.up() for end in wire.ends], [births, births])

    def test_pieces_lost_and_doubled_while_the_up_lasts(self):
        # The fates keep the measure, so that one up lasts, and many pieces go.
        for place, measure in enumerate(((1, 4), (2, 2), (3, 1), (4, 0), (6, 0), (6, 4))):
            signs = stream_of_signs(4300 + place)
            wire = Wire(self, measure)
            wire.run(1200, kept(signs, measure), kept(signs, measure), signs)
            self.assertEqual([len(wire.told_of(side, "up")) for side in (0, 1)], [1, 1])
            for side in (0, 1):
                self.assertGreater(len(wire.told_of(side, "took")), 50)


class CalmTest(unittest.TestCase):
    def storm(self, measure, signs):
        wire = Wire(self, measure)
        wire.run(next(signs) % 60, weather(signs, measure[0]), weather(signs, measure[0]), signs)
        return wire

    def look_calm(self, wire, begin):
        quiet = wire.quiet
        for side in (0, 1):
            self.assertEqual([row for row in wire.told_of(side, "silent") if row[0] >= begin + quiet], [])
            self.assertEqual(wire.stuck(side, begin + 3 * quiet + 1), [], (wire.measure, side))
        pairs = {pair for side in (0, 1) for pair in wire.ups[side][begin + 3 * quiet + 1:]}
        self.assertEqual(len(pairs), 1, (wire.measure, pairs))
        self.assertNotIn(None, pairs)

    def test_behind_a_storm_both_are_up_for_good(self):
        for place, measure in enumerate(MEASURES):
            for seed in range(6):
                signs = stream_of_signs(9000 + 31 * seed + place)
                wire = self.storm(measure, signs)
                begin = wire.now
                rows = (
                    (kept(signs, measure), kept(signs, measure)), (hardest(measure), hardest(measure)),
                    (longest(measure), longest(measure)), (hardest(measure), kept(signs, measure)),
                    (kept(signs, measure), longest(measure)), (kept(signs, measure), hardest(measure)),
                )[seed]
                wire.run(9 * wire.quiet + 20, rows[0], rows[1], signs)
                for side in (0, 1):
                    self.assertTrue(keeps(wire.fates[side][begin:], measure))
                self.look_calm(wire, begin)

    def test_from_the_first_tick_on(self):
        for measure in MEASURES:
            for rows in ((hardest(measure), hardest(measure)), (longest(measure), hardest(measure))):
                wire = Wire(self, measure)
                wire.run(12 * wire.quiet, rows[0], rows[1], stream_of_signs(77))
                self.look_calm(wire, 0)
                self.assertEqual([wire.told_of(side, "silent") for side in (0, 1)], [[], []])

    def test_the_cells_of_the_storm_that_are_still_on_their_way(self):
        # Silence up to the calm, and for the first quiet ticks of it what is late is late.
        for measure, silent in itertools.product(MEASURES, range(0, 22, 3)):
            wire = plain_up(self, measure)
            for tick in range(silent):
                wire.tick(((), PLAIN) if silent % 2 else ((), ()))
            begin = wire.now
            wire.run(8 * wire.quiet + 4, hardest(measure), hardest(measure), stream_of_signs(78))
            self.look_calm(wire, begin)

    def test_pieces_are_taken_while_any_wait(self):
        for measure in MEASURES:
            for rows in ((hardest(measure), hardest(measure)), (longest(measure), longest(measure))):
                wire = plain_up(self, measure)
                for number in range(12):
                    wire.put(0, [number])
                    wire.put(1, [number, number])
                begin = wire.now
                wire.run(2 * wire.quiet * 12, rows[0], rows[1])
                for side in (0, 1):
                    self.assertEqual(wire.stuck(side, begin), [])
                    self.assertEqual(len(wire.took[side][(1, 1)]), 12)

    def test_with_no_fit_fate_neither_is_up(self):
        for place, measure in enumerate(MEASURES):
            for seed, side in itertools.product(range(5), (0, 1)):
                signs = stream_of_signs(12000 + 31 * seed + place)
                wire = self.storm(measure, signs)
                begin = wire.now
                lost = unfit(signs, measure[0])
                other = (
                    kept(signs, measure), hardest(measure), weather(signs, measure[0]), itertools.repeat(PLAIN),
                    unfit(signs, measure[0]),
                )[seed]
                rows = (lost, other) if side == 0 else (other, lost)
                wire.run(9 * wire.quiet + 10, rows[0], rows[1], signs)
                self.assertFalse(any(is_fit(fate) for fate in wire.fates[side][begin:]))
                for ups in wire.ups:
                    self.assertEqual(set(ups[begin + 4 * wire.quiet + 1:]), {None}, (measure, seed))

    def test_an_up_that_ends_by_no_fit_fate(self):
        for measure, side in itertools.product(MEASURES, (0, 1)):
            for other in (PLAIN, (), ((measure[0], ()),)):
                wire = plain_up(self, measure)
                for tick in range(4 * wire.quiet + 1):
                    wire.tick(((), other) if side == 0 else (other, ()))
                for tick in range(30):
                    wire.tick(((), other) if side == 0 else (other, ()))
                    self.assertEqual([end.up() for end in wire.ends], [None, None])


class OwnershipTest(unittest.TestCase):
    def test_cells_handed_in_stay_and_may_be_changed_later(self):
        one, other = LinkEnd((1, 0), 0), LinkEnd((1, 0), 1)
        cells = [one.tick([]), other.tick([])]
        for tick in range(4):
            turned = [[with_turns(cells[1], MENDABLE)], [cells[0], with_turns(cells[0], UNREADABLE)]]
            before = [[list(cell) for cell in row] for row in turned]
            cells = [one.tick(turned[0]), other.tick(turned[1])]
            self.assertEqual(turned, before)
            for row in turned:
                for cell in row:
                    cell[0] = 50
                    cell.append(1)
                row.clear()
        self.assertEqual((one.events(), other.events()), ([("up", (1, 1))], [("up", (1, 1))]))

    def test_a_cell_given_is_the_askers_own(self):
        one, other = LinkEnd((1, 0), 0), LinkEnd((1, 0), 1)
        cells = [one.tick([]), other.tick([])]
        for tick in range(6):
            if tick == 3:
                one.put([1, 2, 3])
            copies = [list(cell) for cell in cells]
            for cell in cells:
                cell[3] = (cell[3] + 1) % 97
                cell.reverse()
                cell.clear()
            cells = [one.tick([copies[1]]), other.tick([copies[0]])]
        self.assertEqual(other.events(), [("up", (1, 1)), ("took", [1, 2, 3])])

    def test_pieces_put_stay_and_may_be_changed_later(self):
        wire = plain_up(self, (1, 0))
        piece = [1, 2]
        wire.put(0, piece)
        self.assertEqual(piece, [1, 2])
        piece[0] = 9
        piece.append(8)
        wire.put(0, piece)
        piece.clear()
        for tick in range(6):
            wire.tick()
        self.assertEqual(wire.took[1], {(1, 1): [[1, 2], [9, 2, 8]]})

    def test_one_piece_put_at_both_ends_and_twice(self):
        wire = plain_up(self, (1, 0))
        piece = [4]
        for side in (0, 0, 1):
            wire.put(side, piece)
        for tick in range(2):
            wire.tick()
        piece[0] = 5
        for tick in range(4):
            wire.tick()
        self.assertEqual(wire.took, ({(1, 1): [[4]]}, {(1, 1): [[4], [4]]}))

    def test_told_events_are_the_askers_own(self):
        one, other = LinkEnd((2, 0), 0), LinkEnd((2, 0), 1)
        cells = [one.tick([]), other.tick([])]
        for tick in range(2):
            cells = [one.tick([cells[1]]), other.tick([cells[0]])]
        one.put([1])
        one.put([2])
        for tick in range(2):
            cells = [one.tick([cells[1]]), other.tick([cells[0]])]
        told = other.events()
        self.assertEqual(told, [("up", (1, 1)), ("took", [1])])
        told[1][1][0] = 60
        told.append(None)
        for tick in range(3):
            cells = [one.tick([cells[1]]), other.tick([cells[0]])]
        self.assertEqual(other.events(), [("took", [2])])
        self.assertEqual(told, [("up", (1, 1)), ("took", [60]), None])
        other.events().append(("up", (7, 7)))
        self.assertEqual((other.events(), other.up(), one.waits()), ([], (1, 1), 0))

    def test_asked_again_tells_alike(self):
        wire = plain_up(self, (1, 0))
        wire.put(0, [1])
        for end, waits in zip(wire.ends, (1, 0)):
            self.assertEqual([end.up(), end.waits(), end.up(), end.waits()], [(1, 1), waits] * 2)

    def test_a_told_piece_may_be_put_again(self):
        wire = plain_up(self, (1, 0))
        wire.put(0, [1, 2, 3])
        for tick in range(2):
            wire.tick()
        wire.put(1, wire.took[1][(1, 1)][0])
        for tick in range(2):
            wire.tick()
        self.assertEqual(wire.took[0], {(1, 1): [[1, 2, 3]]})

    def test_two_ends_are_apart(self):
        first, second = plain_up(self, (2, 1)), plain_up(self, (2, 1))
        first.put(0, [1])
        self.assertEqual([end.waits() for end in first.ends + second.ends], [1, 0, 0, 0])
        for tick in range(4):
            first.tick()
            second.tick()
        self.assertEqual((first.took[1], second.took[1]), ({(1, 1): [[1]]}, {}))
        for tick in range(5):
            first.tick(lost_from(0))
        self.assertEqual([end.up() for end in first.ends + second.ends], [None, None, (1, 1), (1, 1)])
        fresh = LinkEnd((2, 1), 0)
        self.assertEqual((fresh.up(), fresh.waits(), fresh.events()), (None, 0, []))

    def test_alike_doings_are_told_alike(self):
        runs = []
        for turn in range(2):
            signs = stream_of_signs(555)
            wire = Wire(self, (3, 2))
            wire.run(200, weather(signs, 3), weather(signs, 3), signs)
            runs.append((wire.events, wire.came, wire.ups))
        self.assertEqual(runs[0], runs[1])


if __name__ == "__main__":
    unittest.main()
