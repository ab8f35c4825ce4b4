"""Two ends of a wire in any weather, held to what the document lets them tell."""

import itertools

from reckoning import any_fate, picked, sums_of, taken, with_turns
from stormpost.fates import is_fit, longest_silence
from stormpost.links import LinkEnd

MEASURES = list(itertools.product(range(1, 7), range(5)))
PLAIN = ((1, ()),)
BOTH_PLAIN = (PLAIN, PLAIN)


def weather(signs, late):
    """Fates of any kind, in spells of hard and of mild weather."""
    while True:
        hard = next(signs) % 11
        for tick in range(1 + next(signs) % 30):
            yield () if next(signs) % 10 < hard else any_fate(signs, late)


def kept(signs, measure):
    """Fates of any kind that keep the measure, with as many lost in a row as it lets, and late ones."""
    late, lost = measure
    unfit = 0
    while True:
        fate = any_fate(signs, late) if next(signs) % 3 == 0 else ()
        if not is_fit(fate) and unfit == lost:
            turns = tuple((place, 1 + next(signs) % 96) for place in picked(signs, next(signs) % 3, 24))
            fate = ((late, turns),)
        unfit = 0 if is_fit(fate) else unfit + 1
        yield fate


def hardest(measure):
    """As many lost in a row as the measure lets, again and again, and all others as late as can be."""
    return itertools.cycle([()] * measure[1] + [((measure[0], ()),)])


def longest(measure):
    return itertools.cycle(longest_silence(measure))


def unfit_fate(signs, late):
    """No arrival, or arrivals with three or four turns alone."""
    return tuple(
        (
            1 + next(signs) % late,
            tuple((place, 1 + next(signs) % 96) for place in picked(signs, 3 + next(signs) % 2, 24)),
        )
        for i in range(next(signs) % 4)
    )


def unfit(signs, late):
    while True:
        yield unfit_fate(signs, late)


class EndByWords:
    """An end as the document words it, but for pieces: it reads what cells tell, and no cells."""

    def __init__(self, quiet, side):
        self.quiet, self.side = quiet, side
        self.birth, self.known, self.pair = 1, None, None
        self.heard = []

    def read(self, birth, own):
        events = []
        if self.known is not None and birth < self.known:
            return events
        if self.pair is not None and birth > self.pair[1 - self.side]:
            events.append(("anew", self.pair))
            self.pair = None
        self.known = birth
        if own == self.birth and self.pair is None:
            self.pair = (self.birth, birth) if self.side == 0 else (birth, self.birth)
            events.append(("up", self.pair))
        return events

    def tick(self, told):
        events = [event for birth, own in told for event in self.read(birth, own)]
        last = len(self.heard)
        self.heard.append(bool(told))
        first = last - self.quiet + 1
        if self.known is not None and first >= 0 and not any(self.heard[first:]):
            if self.pair is not None:
                events.append(("silent", self.pair, first, last))
            self.birth, self.known, self.pair = self.birth + 1, None, None
        return events


class Wire:
    """Both ends, all that was done with them and told by them; each tick is looked at on the spot."""

    def __init__(self, case, measure):
        self.case, self.measure, self.quiet = case, measure, sum(measure)
        self.ends = (LinkEnd(measure, 0), LinkEnd(measure, 1))
        self.words = (EndByWords(self.quiet, 0), EndByWords(self.quiet, 1))
        self.now = 0
        self.coming = ({}, {})
        self.came, self.events, self.ups, self.took_in = ([], []), ([], []), ([], []), ([], [])
        self.fates = ([], [])
        self.puts, self.took = ({}, {}), ({}, {})
        self.ahead, self.behind = ([], []), ([], [])

    def put(self, side, piece):
        pair = self.ends[side].up()
        self.case.assertIsNone(self.ends[side].put(piece))
        self.puts[side].setdefault(pair, []).append(list(piece))

    def put_some(self, signs):
        """Now and then some pieces, where an end is up and not many wait."""
        for side in (0, 1):
            if self.ends[side].up() is not None and next(signs) % 3 == 0 and self.ends[side].waits() < 6:
                for i in range(next(signs) % 4):
                    self.put(side, taken(signs, 1 + next(signs) % 10))

    def tick(self, fates=BOTH_PLAIN):
        given = [self.tick_end(side) for side in (0, 1)]
        for side in (0, 1):
            self.fates[side].append(fates[side])
            told = (self.words[side].birth, self.words[side].known)
            for delay, turns in fates[side]:
                row = self.coming[1 - side].setdefault(self.now + delay, [])
                row.append((with_turns(given[side], turns), told if len(turns) <= 2 else None))
        self.now += 1

    def tick_end(self, side):
        end = self.ends[side]
        arrivals = self.coming[side].pop(self.now, [])
        cells = [cell for cell, told in arrivals]
        self.came[side].append([list(cell) for cell in cells])
        self.ahead[side].append(end.waits())
        cell = end.tick(cells)
        self.behind[side].append(end.waits())
        self.case.assertEqual(cells, self.came[side][-1])
        self.case.assertEqual(sums_of(cell), [0] * 6)
        self.case.assertEqual(len(cell), 24)
        before = self.words[side].pair
        due = self.words[side].tick([told for arrived, told in arrivals if told is not None])
        self.look_events(side, before, due)
        return cell

    def look_events(self, side, before, due):
        events = self.ends[side].events()
        self.case.assertEqual(self.ends[side].events(), [])
        self.case.assertEqual([event for event in events if event[0] != "took"], due)
        pair = before
        many = 0
        for event in events:
            self.events[side].append((self.now, event))
            if event[0] == "took":
                self.case.assertIsNotNone(pair)
                self.took[side].setdefault(pair, []).append(list(event[1]))
                many += 1
            else:
                pair = event[1] if event[0] == "up" else None
        self.took_in[side].append(many)
        self.ups[side].append(pair)
        self.case.assertEqual(self.ends[side].up(), pair)
        self.look_pieces(side, pair)

    def look_pieces(self, side, pair):
        for known, pieces in self.took[side].items():
            self.case.assertEqual(pieces, self.puts[1 - side].get(known, [])[:len(pieces)])
        waits = self.ends[side].waits()
        if pair is None:
            self.case.assertEqual(waits, 0)
            return
        put, took = len(self.puts[side].get(pair, [])), len(self.took[1 - side].get(pair, []))
        self.case.assertLessEqual(put - took, waits)
        self.case.assertLessEqual(waits, put)

    def run(self, ticks, one, other, signs=None):
        """So many ticks, with the fates that two rows tell, and pieces put where signs are handed in."""
        for tick in range(ticks):
            if signs is not None:
                self.put_some(signs)
            self.tick((next(one), next(other)))

    def tick_until(self, is_over, fates, most):
        """Ticks till it is over, and how many; more than so many are a failure."""
        for many in range(most + 1):
            if is_over():
                return many
            self.tick(fates)
        return self.case.fail(f"not over behind {most} ticks")

    def told_of(self, side, word):
        return [(tick, event) for tick, event in self.events[side] if event[0] == word]

    def stuck(self, side, first):
        """The ticks from first on, 2 * quiet in a row, while a piece of this side waits, and none is taken."""
        many = 2 * self.quiet
        found = []
        for begin in range(first, self.now - many + 1):
            end = begin + many
            waiting = all(self.ahead[side][begin:end]) and all(self.behind[side][begin:end - 1])
            if waiting and not any(self.took_in[1 - side][begin:end]):
                found.append((begin, end - 1))
        return found


def plain_up(case, measure):
    """A wire that came up in plain weather: behind tick 2."""
    wire = Wire(case, measure)
    for tick in range(3):
        wire.tick()
    case.assertEqual([end.up() for end in wire.ends], [(1, 1), (1, 1)])
    return wire
