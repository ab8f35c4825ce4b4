"""Fences: lists of stands out of which no step leads, and rows of steps that lead to a wrong one."""

from stormpost.stands import first_stand, is_wrong, next_stand, steps_from


def row_to(ways, stand):
    """The steps by which a stand was first reached."""
    row = []
    while ways[stand] is not None:
        row.append(ways[stand][1])
        stand = ways[stand][0]
    return list(reversed(row))


def shown(model):
    """("safe", fence), or ("wrong", steps) with the fewest steps that come to a wrong one."""
    first = first_stand(model)
    ways = {first: None}
    layer = [first]
    # Layer by layer, so that no row with fewer steps is passed over. The search
    # ends: while no step was wrong, all entries lie close to the count.
    while layer:
        beyond = []
        for stand in layer:
            for step in steps_from(model, stand):
                if is_wrong(model, stand, step):
                    return ("wrong", row_to(ways, stand) + [step])
                reached = next_stand(model, stand, step)
                if reached not in ways:
                    ways[reached] = (stand, step)
                    beyond.append(reached)
        layer = beyond
    return ("safe", list(ways))


def keeps_inside(model, stand, inside):
    """Whether no step from the stand is wrong or leads outside."""
    for step in steps_from(model, stand):
        if is_wrong(model, stand, step) or next_stand(model, stand, step) not in inside:
            return False
    return True


def fence_stands(model, stands):
    first = first_stand(model)
    inside = dict([(stand, True) for stand in stands])
    if len(inside) != len(stands) or first not in inside:
        return False
    return all([keeps_inside(model, stand, inside) for stand in stands])


def walk_of(model, steps):
    """The stands ahead of each step, or None where the steps can't be gone in this row."""
    stand = first_stand(model)
    stands = []
    for place, step in enumerate(steps):
        if step not in steps_from(model, stand):
            return None
        stands.append(stand)
        if is_wrong(model, stand, step):
            return stands if place == len(steps) - 1 else None
        stand = next_stand(model, stand, step)
    return stands
