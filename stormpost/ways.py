"""Ways over the wires that stand in a map, with heights that show that none is shorter, or sides that show none."""

from stormpost.letters import is_house


def lengths_of(chart):
    """The wires that stand in the map, both ways: a dict from (house, house) to the length."""
    lengths = {}
    for one, other, length in chart.wires():
        lengths[(one, other)] = length
        lengths[(other, one)] = length
    return lengths


def heights_to(lengths, goal):
    """A dict from each house from which wires lead to the goal to the shortest length there."""
    heights = {goal: 0}
    falling = True
    # This ends, since lengths are above 0: going round never makes a height less.
    while falling:
        falling = False
        for begin, end in lengths:
            if end in heights:
                height = heights[end] + lengths[(begin, end)]
                if begin not in heights or height < heights[begin]:
                    heights[begin] = height
                    falling = True
    return heights


def next_house(lengths, heights, house):
    """The least house to which a shortest way goes on."""
    return min([
        end for begin, end in lengths
        if begin == house and heights[end] + lengths[(begin, end)] == heights[house]
    ])


def least_way(lengths, heights, one, goal):
    way = [one]
    while way[-1] != goal:
        way.append(next_house(lengths, heights, way[-1]))
    return tuple(way)


def way_of(chart, one, other):
    """("way", way, heights), or ("side", side) where there is no way."""
    lengths = lengths_of(chart)
    heights = heights_to(lengths, other)
    if one not in heights:
        return ("side", tuple(sorted(heights_to(lengths, one))))
    way = least_way(lengths, heights, one, other)
    return ("way", way, [(house, heights[house]) for house in sorted(heights)])


def way_length(lengths, way):
    """The sum of the lengths of the way's wires; None where one of them doesn't stand."""
    total = 0
    for wire in zip(way, way[1:]):
        if wire not in lengths:
            return None
        total += lengths[wire]
    return total


def goes_from_to(way, one, other):
    """Whether the way begins and ends so, with no house twice."""
    return len(way) > 0 and way[0] == one and way[-1] == other and len(set(way)) == len(way)


def heights_hold(lengths, goal, heights):
    """Whether these are all houses joined to the goal, rising, with heights that no wire is too short for."""
    if [house for house, height in heights] != sorted(heights_to(lengths, goal)):
        return False
    height_of = dict(heights)
    if height_of[goal] != 0:
        return False
    # A wire is there both ways, so each difference is looked at both ways, too.
    for begin, end in lengths:
        if begin in height_of and height_of[begin] - height_of[end] > lengths[(begin, end)]:
            return False
    return True


def way_holds(lengths, one, other, way, heights):
    if not goes_from_to(way, one, other) or not heights_hold(lengths, other, heights):
        return False
    total = way_length(lengths, way)
    return total is not None and (one, total) in heights


def are_rising_houses(numbers):
    # The map can't tell what is a house: a side may hold some that it doesn't know.
    return list(numbers) == sorted(set(numbers)) and all([is_house(number) for number in numbers])


def side_holds(lengths, one, other, side):
    if not are_rising_houses(side) or one not in side or other in side:
        return False
    return not any([begin in side and end not in side for begin, end in lengths])


def way_judged(chart, one, other, answer):
    """Whether the answer is right, told by way_of or another one."""
    lengths = lengths_of(chart)
    if answer[0] == "way":
        return way_holds(lengths, one, other, answer[1], answer[2])
    return answer[0] == "side" and side_holds(lengths, one, other, answer[1])
