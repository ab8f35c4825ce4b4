"""Stands of an offerer and a taker that tell numbers by their rests, and the steps between them."""

from stormpost.errors import BadModel

MOST_ROUND = 9
MOST_PAUSE = 8
MOST_LATE = 3


def look_bounds(number, least, most):
    if not least <= number <= most:
        raise BadModel(f"from {least} to {most} is asked for here, not {number}")


def look_model(model):
    look_bounds(model[0], 1, MOST_ROUND)
    look_bounds(model[1], 0, MOST_PAUSE)
    look_bounds(model[2], 1, MOST_LATE)


def first_stand(model):
    look_model(model)
    nothing = (None,) * model[2]
    return (0, 0, nothing, nothing)


def ages_at(entries, number, many):
    """0, and how many ticks ago each of the entries was given that has the rest of this number."""
    fitting = [0]
    for age, entry in enumerate(entries, start=1):
        if entry is not None and (entry - number) % many == 0:
            fitting.append(age)
    return fitting


def steps_from(model, stand):
    """The rising list of steps that may be."""
    look_model(model)
    takes = ages_at(stand[2], 0, model[0])
    hears = ages_at(stand[3], stand[0] + 1, model[0]) if stand[1] == 0 else [0]
    steps = []
    for take in takes:
        for hear in hears:
            steps.append((take, hear))
    return steps


def is_wrong(model, stand, step):
    """Whether another piece is taken, or another count heard, than the one that it is taken for."""
    look_model(model)
    wrong_take = step[0] > 0 and stand[2][step[0] - 1] != 0
    wrong_hear = step[1] > 0 and stand[3][step[1] - 1] != stand[0] + 1
    return wrong_take or wrong_hear


def shifted(given, entries, grown):
    """The entries one tick on, the given one first, all less what the count has grown by."""
    older = [None if entry is None else entry - grown for entry in entries[:-1]]
    return (given,) + tuple(older)


def next_stand(model, stand, step):
    look_model(model)
    grown = 1 if step[0] > 0 else 0
    ahead = stand[0] - grown
    rest = stand[1]
    if step[1] > 0:
        ahead += 1
        rest = model[1]
    given = ahead
    if rest > 0:
        rest -= 1
        given = None
    return (ahead, rest, shifted(given, stand[2], grown), shifted(0, stand[3], grown))
