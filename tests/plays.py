"""The offerer and the taker of stage 4, played with whole numbers: not by stands, as the program does it."""

import itertools

from reckoning import FAR

MODELS = list(itertools.product(range(1, 10), range(9), range(1, 4)))
BAD_ROUNDS = (0, 10, -1, -9, 11, 97, FAR, -FAR)
BAD_PAUSES = (-1, 9, 10, -8, FAR, -FAR)
BAD_LATES = (0, 4, -1, -3, 5, FAR, -FAR)
BAD_MODELS = (
    [(many, 0, 1) for many in BAD_ROUNDS] + [(9, 8, late) for late in BAD_LATES]
    + [(2, pause, 3) for pause in BAD_PAUSES] + list(itertools.product(BAD_ROUNDS, (0, 8), (1, 3)))
    + list(itertools.product((1, 9), BAD_PAUSES, (1, 3))) + list(itertools.product((1, 9), (0, 8), BAD_LATES))
    + list(itertools.product(BAD_ROUNDS, BAD_PAUSES, BAD_LATES))
)


class Play:
    """An offerer at a number, a taker at a count, and what both gave, the newest first."""

    def __init__(self, model, stand=None, count=0):
        self.many, self.pause, self.late = model
        ahead, self.rest, sent, told = stand or (0, 0, (None,) * self.late, (None,) * self.late)
        self.count = count
        self.number = count + ahead
        self.sent = [None if entry is None else count + entry for entry in sent]
        self.told = [None if entry is None else count + entry for entry in told]

    def stand(self):
        sent = tuple(None if number is None else number - self.count for number in self.sent)
        told = tuple(None if number is None else number - self.count for number in self.told)
        return (self.number - self.count, self.rest, sent, told)

    def alike(self, one, other):
        return one is not None and one % self.many == other % self.many

    def may_take(self, age):
        return age == 0 or self.alike(self.sent[age - 1], self.count)

    def may_hear(self, age):
        return age == 0 or self.rest == 0 and self.alike(self.told[age - 1], self.number + 1)

    def steps(self):
        ages = range(self.late + 1)
        return [(take, hear) for take in ages for hear in ages if self.may_take(take) and self.may_hear(hear)]

    def is_wrong(self, step):
        take, hear = step
        return bool(
            take and self.sent[take - 1] != self.count or hear and self.told[hear - 1] != self.number + 1
        )

    def go(self, step):
        if step[0]:
            self.count += 1
        if step[1]:
            self.number += 1
            self.rest = self.pause
        self.sent = [None if self.rest > 0 else self.number] + self.sent[:-1]
        self.rest -= 1 if self.rest > 0 else 0
        self.told = [self.count] + self.told[:-1]


def gone(model, stand, step):
    play = Play(model, stand, 1000)
    play.go(step)
    return play.stand()


def reached(model, stands=()):
    """The stands to which steps lead from the first one and from these, and how many steps come to a wrong one.

    The second is None where none does.
    """
    layer = [Play(model).stand()] + [stand for stand in stands]
    seen = set(layer)
    fewest = None
    many = 1
    while layer:
        beyond = []
        for stand in layer:
            play = Play(model, stand)
            for step in play.steps():
                if play.is_wrong(step):
                    fewest = fewest or many
                    continue
                behind = gone(model, stand, step)
                if behind not in seen:
                    seen.add(behind)
                    beyond.append(behind)
        layer = beyond
        many += 1
    return sorted(seen, key=repr), fewest
