import copy
import itertools
import unittest

from drawn import shuffled
from reckoning import FAR, picked, stream_of_signs
from stormpost.maps import Map, made_news
from stormpost.ways import way_judged, way_of

# A square with two shortest ways between corners, a longer wire across, and two houses apart.
SQUARE = [(0, 1, 1), (0, 2, 1), (1, 3, 1), (2, 3, 1), (0, 3, 3), (5, 6, 10)]


def map_of(wires, houses=()):
    """A map in which just these wires stand; some of them are told with a lesser quiet at one end."""
    known = sorted({house for wire in wires for house in wire[:2]} | set(houses))
    chart = Map()
    for house in known:
        near = []
        for one, other, length in wires:
            if house in (one, other):
                quiet = length if house == one or length % 2 else length - length // 2
                near.append((one + other - house, quiet, (1, 1)))
        chart.hear(made_news(house, 0, near, []))
    return chart


def lengths_between(wires):
    lengths = {}
    for one, other, length in wires:
        lengths[one, other] = lengths[other, one] = length
    return lengths


def all_ways(lengths, houses, one, other):
    """All ways from the one to the other, no house twice, with their lengths: each order is tried."""
    if one == other:
        return [(0, (one,))]
    ways = []
    between = [house for house in houses if house not in (one, other)]
    for many in range(len(between) + 1):
        for middle in itertools.permutations(between, many):
            way = (one,) + middle + (other,)
            steps = list(zip(way, way[1:]))
            if all(step in lengths for step in steps):
                ways.append((sum(lengths[step] for step in steps), way))
    return ways


class Reckoned:
    """What the document asks of a map with these wires."""

    def __init__(self, wires):
        self.lengths = lengths_between(wires)
        self.houses = sorted({house for wire in wires for house in wire[:2]})
        self.shortest = {}

    def best(self, one, other):
        """The shortest length and, of the ways that have it, the least; None without a way."""
        if (one, other) not in self.shortest:
            self.shortest[one, other] = min(all_ways(self.lengths, self.houses, one, other), default=None)
        return self.shortest[one, other]

    def heights(self, goal):
        reached = sorted(set(self.houses) | {goal})
        return [(house, self.best(house, goal)[0]) for house in reached if self.best(house, goal)]

    def is_right_way(self, one, other, way, heights):
        if len(way) == 0 or way[0] != one or way[-1] != other or len(set(way)) < len(way):
            return False
        steps = list(zip(way, way[1:]))
        if any(step not in self.lengths for step in steps):
            return False
        if [house for house, height in heights] != [house for house, height in self.heights(other)]:
            return False
        high = dict(heights)
        if high[other] != 0 or high[one] != sum(self.lengths[step] for step in steps):
            return False
        return all(
            abs(high[begin] - high[end]) <= length
            for (begin, end), length in self.lengths.items() if begin in high and end in high
        )

    def is_right_side(self, one, other, side):
        if any(house not in range(32) for house in side):
            return False
        if any(low >= high for low, high in zip(side, side[1:])) or one not in side or other in side:
            return False
        return not any(begin in side and end not in side for begin, end in self.lengths)

    def is_right(self, one, other, answer):
        if answer[0] == "way":
            return self.is_right_way(one, other, answer[1], answer[2])
        return self.is_right_side(one, other, answer[1])


def drawn_wires(seed):
    """Wires between at most six houses; lengths lie close together, so that many ways are as long."""
    signs = stream_of_signs(seed)
    houses = picked(signs, 2 + next(signs) % 5, 32)
    most, often = 1 + next(signs) % 10, 1 + next(signs) % 4
    return [
        (one, other, 1 + next(signs) % most)
        for one, other in itertools.combinations(houses, 2) if next(signs) % 5 < often
    ], houses, signs


class WayOfTest(unittest.TestCase):
    def look_at(self, chart, reckoned, one, other):
        answer = way_of(chart, one, other)
        best = reckoned.best(one, other)
        self.assertIsInstance(answer, tuple)
        if best is None:
            word, side = answer
            self.assertEqual(word, "side")
            self.assertIsInstance(side, tuple)
            self.assertTrue(reckoned.is_right_side(one, other, side), (one, other, side))
        else:
            self.assertEqual(answer, ("way", best[1], reckoned.heights(other)))
            self.assertIsInstance(answer[1], tuple)
            self.assertIsInstance(answer[2], list)
        self.assertIs(way_judged(chart, one, other, answer), True)

    def look_at_all(self, wires, houses, strangers=()):
        chart, reckoned = map_of(wires, houses), Reckoned(wires)
        self.assertEqual(chart.wires(), sorted(wires))
        for one, other in itertools.product(list(houses) + list(strangers), repeat=2):
            self.look_at(chart, reckoned, one, other)

    def test_the_square(self):
        chart = map_of(SQUARE, (0, 4))
        self.assertEqual(way_of(chart, 0, 3), ("way", (0, 1, 3), [(0, 2), (1, 1), (2, 1), (3, 0)]))
        self.assertEqual(way_of(chart, 3, 0), ("way", (3, 1, 0), [(0, 0), (1, 1), (2, 1), (3, 2)]))
        self.assertEqual(way_of(chart, 1, 2), ("way", (1, 0, 2), [(0, 1), (1, 2), (2, 0), (3, 1)]))
        self.assertEqual(way_of(chart, 6, 5), ("way", (6, 5), [(5, 0), (6, 10)]))
        self.assertEqual(way_of(chart, 4, 4), ("way", (4,), [(4, 0)]))
        self.assertEqual(way_of(chart, 4, 0), ("side", (4,)))

    def test_a_longer_row_of_houses_may_be_the_shorter_way(self):
        wires = [(0, 1, 1), (1, 2, 1), (2, 3, 1), (3, 4, 1), (4, 5, 1), (0, 5, 6), (0, 4, 5)]
        self.assertEqual(way_of(map_of(wires), 0, 5)[1], (0, 1, 2, 3, 4, 5))
        self.assertEqual(way_of(map_of(wires), 5, 0)[1], (5, 4, 3, 2, 1, 0))

    def test_of_several_shortest_ways_the_least_as_tuples_stand(self):
        # The least is the longer tuple here, and the least next house leads on to a greater one.
        wires = [(0, 1, 1), (1, 30, 1), (30, 31, 1), (0, 2, 1), (2, 31, 2), (0, 31, 3)]
        self.assertEqual(way_of(map_of(wires), 0, 31)[1], (0, 1, 30, 31))
        self.assertEqual(way_of(map_of(wires), 31, 0)[1], (31, 0))
        wires = [(9, 10, 2), (9, 11, 1), (10, 12, 1), (11, 12, 2), (12, 13, 1)]
        self.assertEqual(way_of(map_of(wires), 9, 13)[1], (9, 10, 12, 13))
        self.assertEqual(way_of(map_of(wires), 13, 9)[1], (13, 12, 10, 9))

    def test_all_maps_of_three_houses(self):
        pairs = list(itertools.combinations((1, 4, 31), 2))
        for lengths in itertools.product((0, 1, 2, 3, 10), repeat=3):
            wires = [(one, other, length) for (one, other), length in zip(pairs, lengths) if length]
            self.look_at_all(wires, (1, 4, 31), (0, 2, 30))

    def test_all_maps_of_four_houses(self):
        pairs = list(itertools.combinations((0, 1, 2, 3), 2))
        for lengths in itertools.product((0, 1, 2), repeat=6):
            wires = [(one, other, length) for (one, other), length in zip(pairs, lengths) if length]
            self.look_at_all(wires, (0, 1, 2, 3))

    def test_drawn_maps_of_up_to_six_houses(self):
        sides = ways = 0
        for seed in range(150):
            wires, houses, signs = drawn_wires(seed)
            self.look_at_all(wires, houses, [house for house in (0, 31) if house not in houses])
            reckoned = Reckoned(wires)
            for one, other in itertools.permutations(houses, 2):
                best = reckoned.best(one, other)
                sides += best is None
                ways += best is not None and len(best[1]) > 2
        self.assertGreater(sides, 300)
        self.assertGreater(ways, 300)

    def test_houses_that_the_map_does_not_know(self):
        for chart in (Map(), map_of(SQUARE)):
            for one, other in ((9, 10), (9, 31), (31, 9)):
                self.assertEqual(way_of(chart, one, one), ("way", (one,), [(one, 0)]))
                self.assertTrue(way_judged(chart, one, other, way_of(chart, one, other)))
                self.assertEqual(way_of(chart, one, other)[0], "side")
        chart = map_of(SQUARE)
        for known in (0, 3, 5):
            for one, other in ((known, 9), (9, known)):
                word, side = way_of(chart, one, other)
                self.assertEqual(word, "side")
                self.assertTrue(Reckoned(SQUARE).is_right_side(one, other, side))

    def test_a_house_that_is_known_by_others_alone(self):
        # House 1 tells a wire to 2, of which no news were heard: it does not stand.
        chart = map_of([(0, 1, 1)])
        chart.hear(made_news(1, 1, [(0, 1, (1, 1)), (2, 1, (1, 1))], []))
        self.assertEqual(way_of(chart, 0, 2)[0], "side")
        self.assertTrue(way_judged(chart, 0, 2, way_of(chart, 0, 2)))
        self.assertEqual(way_of(chart, 2, 0)[0], "side")
        self.assertIs(way_judged(chart, 0, 2, ("way", (0, 1, 2), [(0, 2), (1, 1), (2, 0)])), False)
        chart.hear(made_news(2, 0, [(1, 4, (1, 2))], []))
        self.assertEqual(way_of(chart, 0, 2)[0], "side")
        chart.hear(made_news(2, 1, [(1, 4, (1, 1))], []))
        self.assertEqual(way_of(chart, 0, 2), ("way", (0, 1, 2), [(0, 5), (1, 4), (2, 0)]))


class WayJudgedTest(unittest.TestCase):
    def setUp(self):
        self.chart = map_of(SQUARE, (0, 4))
        self.heights = [(0, 2), (1, 1), (2, 1), (3, 0)]

    def judged(self, right, one, other, answer):
        self.assertIs(way_judged(self.chart, one, other, answer), right, (one, other, answer))
        self.assertIs(Reckoned(SQUARE).is_right(one, other, answer), right, (one, other, answer))

    def test_other_right_ways(self):
        for way in ((0, 1, 3), (0, 2, 3)):
            self.judged(True, 0, 3, ("way", way, self.heights))

    def test_other_right_heights(self):
        # Asked from 1, the heights of 0 and 2 may be others: no wire is too short for them.
        for heights in (
            [(0, 2), (1, 1), (2, 1), (3, 0)], [(0, 1), (1, 1), (2, 1), (3, 0)], [(0, 0), (1, 1), (2, 0), (3, 0)],
            [(0, 0), (1, 1), (2, -1), (3, 0)], [(0, 1), (1, 1), (2, 0), (3, 0)],
        ):
            self.judged(True, 1, 3, ("way", (1, 3), heights))
        self.judged(True, 3, 3, ("way", (3,), [(0, 0), (1, 0), (2, 0), (3, 0)]))
        self.judged(True, 3, 3, ("way", (3,), [(0, -2), (1, -1), (2, -1), (3, 0)]))

    def test_ways_that_are_none(self):
        for way in (
            (), (0,), (3,), (0, 3), (0, 1, 2, 3), (0, 4, 3), (0, 5, 3), (0, 9, 3), (0, 1, 0, 1, 3), (0, 1, 1, 3),
            (0, 0, 1, 3), (0, 1, 3, 3), (1, 3), (0, 1), (3, 1, 0), (1, 0, 2, 3), (0, 1, 3, 2), (0, 1, 3, 0),
            (4, 1, 3), (0, 1, 4), (0, 97, 3), (0, -1, 3), (-1,), (FAR,), (0, FAR, 3), (-FAR, 1, 3),
        ):
            self.judged(False, 0, 3, ("way", way, self.heights))

    def test_to_or_from_another_house(self):
        answer = ("way", (0, 1, 3), self.heights)
        for one, other in itertools.product((0, 1, 2, 3, 4, 5, 9), repeat=2):
            self.judged((one, other) == (0, 3), one, other, answer)

    def test_longer_ways(self):
        # Heights that keep to all but the length of the shorter way can't be found for these.
        for heights in itertools.product(range(-1, 5), repeat=3):
            heights = [(house, height) for house, height in enumerate(heights)] + [(3, 0)]
            self.judged(False, 0, 3, ("way", (0, 3), heights))
            self.judged(False, 1, 2, ("way", (1, 0, 3, 2), heights))
            self.judged(False, 3, 3, ("way", (3, 1, 3), heights))

    def test_a_way_to_itself_is_one_house(self):
        heights = [(0, 0), (1, 1), (2, 1), (3, 2)]
        self.judged(True, 0, 0, ("way", (0,), heights))
        for way in ((), (0, 0), (0, 1, 0), (1,), (0, 1, 3, 2, 0)):
            self.judged(False, 0, 0, ("way", way, heights))
        self.judged(True, 9, 9, ("way", (9,), [(9, 0)]))
        self.judged(False, 9, 9, ("way", (9, 9), [(9, 0)]))

    def test_heights_that_leave_one_out_or_have_one_too_many(self):
        for place in range(4):
            heights = self.heights[:place] + self.heights[place + 1:]
            self.judged(False, 0, 3, ("way", (0, 1, 3), heights))
        for more in ((4, 0), (4, 2), (5, 1), (9, 0), (32, 0), (FAR, FAR)):
            self.judged(False, 0, 3, ("way", (0, 1, 3), self.heights + [more]))
        self.judged(False, 0, 3, ("way", (0, 1, 3), [(-1, 0)] + self.heights))
        self.judged(False, 0, 3, ("way", (0, 1, 3), []))
        self.judged(False, 4, 4, ("way", (4,), []))
        self.judged(False, 4, 4, ("way", (4,), [(4, 0), (5, 0)]))
        self.judged(False, 4, 4, ("way", (4,), [(0, 0), (4, 0)]))

    def test_heights_that_do_not_rise(self):
        for order in itertools.permutations(self.heights):
            self.judged(list(order) == self.heights, 0, 3, ("way", (0, 1, 3), list(order)))
        for place in range(4):
            twice = self.heights[:place] + [self.heights[place]] + self.heights[place:]
            self.judged(False, 0, 3, ("way", (0, 1, 3), twice))
            self.judged(False, 0, 3, ("way", (0, 1, 3), self.heights + [self.heights[place]]))

    def test_heights_that_are_not_nought_at_the_goal(self):
        for add in (1, -1, 2, FAR, -FAR):
            raised = [(house, height + add) for house, height in self.heights]
            self.judged(False, 0, 3, ("way", (0, 1, 3), raised))
            self.judged(False, 0, 3, ("way", (0, 1, 3), self.heights[:3] + [(3, add)]))
            self.judged(False, 4, 4, ("way", (4,), [(4, add)]))

    def test_heights_that_differ_by_more_than_a_length(self):
        for place, add in itertools.product(range(3), (1, -1, 2, -2, 5, -5, FAR, -FAR)):
            heights = list(self.heights)
            heights[place] = (heights[place][0], heights[place][1] + add)
            self.judged(False, 0, 3, ("way", (0, 1, 3), heights))
        for height in range(-14, 15):
            chart = map_of([(0, 1, 1), (1, 2, 7)])
            answer = ("way", (0, 1), [(0, 1), (1, 0), (2, height)])
            self.assertIs(way_judged(chart, 0, 1, answer), -7 <= height <= 7)

    def test_sides(self):
        for side in ((4,), (4, 5, 6), (0, 1, 2, 3, 4), (0, 1, 2, 3, 4, 5, 6), (4, 8), (4, 8, 20)):
            self.judged(True, 4, 9, ("side", side))
        self.judged(True, 4, 0, ("side", (4,)))
        self.judged(True, 4, 0, ("side", (4, 5, 6)))
        self.judged(True, 5, 0, ("side", (4, 5, 6)))
        self.judged(True, 0, 5, ("side", (0, 1, 2, 3)))
        self.judged(True, 0, 5, ("side", (0, 1, 2, 3, 4)))

    def test_sides_that_are_none(self):
        for side in (
            (), (5, 6), (4, 5), (5, 4), (4, 4), (4, 5, 6, 6), (4, 6, 5), (6, 5, 4), (4, 9), (4, 5, 6, 9),
            (0, 4), (0, 1, 2, 4), (3, 4), (4, 6), (0, 1, 2, 3), (1, 0, 2, 3, 4), (-1,), (FAR,), (FAR, 4),
        ):
            self.judged(False, 4, 9, ("side", side))
        for one, other in ((0, 3), (0, 0), (4, 4), (5, 6), (9, 9)):
            for many in range(7):
                for side in itertools.combinations((0, 1, 2, 3, 4, 5, 6, 9), many):
                    self.judged(False, one, other, ("side", side))

    def test_a_number_that_is_no_house_is_in_no_side(self):
        for side in ((4,), (4, 5, 6), (0, 1, 2, 3, 4), (0, 1, 2, 3, 4, 31)):
            self.judged(True, 4, 9, ("side", side))
            for number in (-FAR, -32, -2, -1, 32, 33, 96, 97, 100, FAR):
                self.judged(False, 4, 9, ("side", tuple(sorted(side + (number,)))))
        for chart in (Map(), self.chart):
            self.assertIs(way_judged(chart, 8, 9, ("side", (-1, 8, 32))), False)
            self.assertIs(way_judged(chart, 8, 9, ("side", (8,) + tuple(range(32, 40)))), False)

    def test_any_house_may_be_in_a_side(self):
        for house in range(32):
            if house != 9:
                self.assertIs(way_judged(Map(), house, 9, ("side", (house,))), True)
                self.assertIs(way_judged(Map(), 8, 9, ("side", tuple(sorted({8, house})))), True)
        self.judged(True, 4, 9, ("side", tuple(house for house in range(32) if house != 9)))

    def test_never_both(self):
        for one, other in itertools.product((0, 1, 3, 4, 5, 6, 9), repeat=2):
            for many in range(8):
                for side in itertools.combinations((0, 1, 2, 3, 4, 5, 6, 9), many):
                    right = Reckoned(SQUARE).is_right_side(one, other, side)
                    self.judged(right, one, other, ("side", side))
                    self.assertFalse(right and way_of(self.chart, one, other)[0] == "way")

    def test_all_answers_for_a_small_map(self):
        wires = [(0, 1, 1), (1, 2, 2), (0, 2, 3)]
        self.chart, reckoned = map_of(wires), Reckoned(wires)
        ways = [way for many in range(4) for way in itertools.product(range(3), repeat=many)]
        for heights in itertools.product(range(-3, 5), repeat=3):
            heights = list(enumerate(heights))
            for way in ways:
                answer = ("way", way, heights)
                for one, other in ((0, 2), (2, 1), (1, 1)):
                    right = reckoned.is_right(one, other, answer)
                    self.assertIs(way_judged(self.chart, one, other, answer), right)

    def altered(self, signs, row):
        """The row with one number put otherwise, left out, put in, or exchanged with another."""
        row = list(row)
        number = (next(signs) % 9 - 2, next(signs), FAR, -FAR, -1, 32)[min(next(signs) % 12, 5) * (next(signs) % 2)]
        place = next(signs) % (len(row) + 1)
        deed = next(signs) % 4
        if deed == 0 or not row:
            row.insert(place, number)
        elif deed == 1:
            row[place % len(row)] = number
        elif deed == 2:
            row.pop(place % len(row))
        else:
            row[0], row[place % len(row)] = row[place % len(row)], row[0]
        return tuple(row)

    def altered_heights(self, signs, heights):
        places = self.altered(signs, range(len(heights))) if next(signs) % 3 == 0 else range(len(heights))
        row = [heights[place] if 0 <= place < len(heights) else (place, place) for place in places]
        return [(house, height + (next(signs) % 3 - 1) * (next(signs) % 4 == 0)) for house, height in row]

    def test_altered_answers_of_drawn_maps(self):
        counts = {True: 0, False: 0}
        for seed in range(120):
            wires, houses, signs = drawn_wires(1000 + seed)
            chart, reckoned = map_of(wires, houses), Reckoned(wires)
            for one, other in itertools.product(shuffled(signs, houses)[:3], repeat=2):
                answer = way_of(chart, one, other)
                for turn in range(25):
                    if answer[0] == "side":
                        altered = ("side", self.altered(signs, answer[1]))
                    elif turn % 2:
                        altered = ("way", self.altered(signs, answer[1]), answer[2])
                    else:
                        altered = ("way", answer[1], self.altered_heights(signs, answer[2]))
                    right = reckoned.is_right(one, other, altered)
                    counts[right] += 1
                    self.assertIs(way_judged(chart, one, other, altered), right, (wires, one, other, altered))
        self.assertGreater(counts[True], 500)
        self.assertGreater(counts[False], 500)


class OwnershipTest(unittest.TestCase):
    def test_the_map_stays(self):
        chart = map_of(SQUARE, (4,))
        before = (chart.news(), chart.wires())
        for one, other in itertools.product(range(8), repeat=2):
            answer = way_of(chart, one, other)
            way_judged(chart, one, other, answer)
            way_judged(chart, other, one, answer)
            self.assertEqual((chart.news(), chart.wires()), before)

    def test_told_heights_are_the_askers_own(self):
        chart = map_of(SQUARE)
        answer = way_of(chart, 0, 3)
        before = copy.deepcopy(answer)
        answer[2].reverse()
        answer[2].pop()
        self.assertEqual(way_of(chart, 0, 3), before)
        told = way_of(chart, 0, 3)
        chart.hear(made_news(0, 1, [], []))
        self.assertEqual(way_of(chart, 0, 3), ("side", (0,)))
        self.assertEqual(told, before)

    def test_an_answer_handed_in_stays(self):
        chart = map_of(SQUARE)
        for answer in (
            ("way", (0, 1, 3), [(0, 2), (1, 1), (2, 1), (3, 0)]), ("way", (0, 1, 3), [(3, 0), (0, 2), (0, 2)]),
            ("way", (), []), ("side", (0, 1)), ("side", (2, 1)),
        ):
            before = copy.deepcopy(answer)
            judged = way_judged(chart, 0, 3, answer)
            self.assertEqual(answer, before)
            self.assertIs(way_judged(chart, 0, 3, answer), judged)

    def test_a_copy_of_the_map_tells_alike_and_goes_its_own_way(self):
        chart = map_of(SQUARE)
        twin = chart.copy()
        self.assertEqual(way_of(twin, 0, 3), way_of(chart, 0, 3))
        twin.hear(made_news(1, 1, [], []))
        self.assertEqual(way_of(twin, 0, 3)[1], (0, 2, 3))
        self.assertEqual(way_of(chart, 0, 3)[1], (0, 1, 3))


if __name__ == "__main__":
    unittest.main()
