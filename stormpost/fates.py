"""Fates of cells on a wire, and the measure that a row of fates keeps."""

from stormpost.cells import PLACES
from stormpost.errors import BadFate, BadMeasure
from stormpost.fields import SIGNS

MOST_LATE = 6
MOST_LOST = 4
MOST_ARRIVALS = 3
MOST_TURNS = 4
MENDED_TURNS = 2


def look_late(late):
    if not 1 <= late <= MOST_LATE:
        raise BadMeasure(f"late is from 1 to {MOST_LATE}, not {late}")


def look_measure(measure):
    look_late(measure[0])
    lost = measure[1]
    if not 0 <= lost <= MOST_LOST:
        raise BadMeasure(f"lost is from 0 to {MOST_LOST}, not {lost}")


def look_turns(turns):
    if len(turns) > MOST_TURNS:
        raise BadFate(f"an arrival has at most {MOST_TURNS} turns")
    ahead = -1
    for place, add in turns:
        if not ahead < place < PLACES:
            raise BadFate(f"the place {place} of a turn is not behind {ahead} or not in a cell")
        if not 1 <= add < SIGNS:
            raise BadFate(f"a turn adds a sign but 0, not {add}")
        ahead = place


def look_fate(fate, late):
    """Refuses a fate that no weather with this late brings about."""
    if len(fate) > MOST_ARRIVALS:
        raise BadFate(f"a fate has at most {MOST_ARRIVALS} arrivals")
    for delay, turns in fate:
        if not 1 <= delay <= late:
            raise BadFate(f"a delay is from 1 to {late}, not {delay}")
        look_turns(turns)


def is_fit(fate):
    """Whether one arrival at least can be mended."""
    return any([len(turns) <= MENDED_TURNS for delay, turns in fate])


def quiet_of(measure):
    look_measure(measure)
    return measure[0] + measure[1]


def breach(fates, measure):
    """The least place from which on lost + 1 fates in a row are not fit, or None."""
    look_measure(measure)
    lost = measure[1]
    unfit = 0
    for place, fate in enumerate(fates):
        unfit = 0 if is_fit(fate) else unfit + 1
        if unfit > lost:
            return place - lost
    return None


def keeps(fates, measure):
    return breach(fates, measure) is None


def longest_silence(measure):
    """Fates from tick 0 on, which keep the measure, by which quiet - 1 ticks bring nothing."""
    look_measure(measure)
    late = measure[0]
    swift = ((1, ()),)
    slow = ((late, ()),)
    # The cells behind the first slow one are held back as long, so that none of
    # them comes ahead of it.
    return [swift] + [()] * measure[1] + [slow] * late
