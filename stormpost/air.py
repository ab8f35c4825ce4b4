"""The air over a wire: what is given comes later, by its fate."""

from stormpost.cells import look_cell
from stormpost.fates import look_fate, look_late
from stormpost.fields import SIGNS


def turned(cell, turns):
    """The cell as a new list, with each turn added."""
    signs = list(cell)
    for place, add in turns:
        signs[place] = (signs[place] + add) % SIGNS
    return signs


class Air:
    def __init__(self, late):
        look_late(late)
        self.late = late
        self.asked = 0
        self.coming = {}

    def give(self, cell, fate, tick):
        """Takes a cell in this tick, to come as often and as late as its fate says."""
        look_cell(cell)
        look_fate(fate, self.late)
        for delay, turns in fate:
            self.coming.setdefault(tick + delay, []).append(turned(cell, turns))

    def come(self, tick):
        """The cells that come in this tick, as a list."""
        self.asked = tick
        # Those of the tick itself stay, so that it may be asked again.
        past = [known for known in self.coming if known < tick]
        for known in past:
            self.coming.pop(known)
        return [list(cell) for cell in self.coming.get(tick, [])]

    def flying(self):
        """How many have yet to come."""
        return sum([len(cells) for tick, cells in self.coming.items() if tick > self.asked])
