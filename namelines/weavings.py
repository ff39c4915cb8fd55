"""Weavings of houses and lines, what of them is fallen, and what hangs together."""

from namelines.kinds import is_number, is_number_below, is_rising, is_tuple_of

GROUPS = 8
MOST_STRANDS = 4


def are_groups(thing):
    """Whether it is a tuple of groups, in any order."""
    return isinstance(thing, tuple) and all([is_number_below(part, GROUPS) for part in thing])


def are_houses(thing):
    return isinstance(thing, tuple) and len(thing) > 0 and all([are_groups(house) for house in thing])


def is_line(thing, many_houses):
    """Whether it is a line of a weaving with so many houses."""
    if not is_tuple_of(thing, 5):
        return False
    one, other, cost, groups, strands = thing
    if not is_number_below(one, many_houses) or not is_number_below(other, many_houses) or one >= other:
        return False
    if not is_number(cost) or cost < 1:
        return False
    if not are_groups(groups) or len(groups) == 0 or not is_rising(groups):
        return False
    return is_number(strands) and 1 <= strands <= MOST_STRANDS


def is_weaving(thing):
    if not is_tuple_of(thing, 2):
        return False
    houses, lines = thing
    if not are_houses(houses) or not isinstance(lines, tuple):
        return False
    return all([is_line(line, len(houses)) for line in lines])


def is_place(weaving, thing):
    if not is_tuple_of(thing, 2):
        return False
    house, door = thing
    return is_number_below(house, len(weaving[0])) and is_number_below(door, len(weaving[0][house]))


def group_at(weaving, place):
    """The group of a place's door."""
    house, door = place
    return weaving[0][house][door]


def places_at(weaving, group, house):
    """The rising list of a house's places of the group."""
    places = [(house, door) for door in range(len(weaving[0][house]))]
    return [place for place in places if group_at(weaving, place) == group]


def is_strand(weaving, thing):
    if not is_tuple_of(thing, 2):
        return False
    line, number = thing
    return is_number_below(line, len(weaving[1])) and is_number_below(number, strands_of(weaving, line))


def are_fallen_houses(weaving, thing):
    if not isinstance(thing, tuple):
        return False
    return all([is_number_below(house, len(weaving[0])) for house in thing]) and is_rising(thing)


def are_fallen_strands(weaving, thing):
    if not isinstance(thing, tuple):
        return False
    return all([is_strand(weaving, strand) for strand in thing]) and is_rising(thing)


def is_falls(weaving, thing):
    if not is_tuple_of(thing, 2):
        return False
    houses, strands = thing
    return are_fallen_houses(weaving, houses) and are_fallen_strands(weaving, strands)


def groups_of(weaving):
    """The rising list of the groups that a door or a line has."""
    houses, lines = weaving
    groups = [group for house in houses for group in house]
    for one, other, cost, carried, strands in lines:
        groups.extend(carried)
    return sorted(set(groups))


def strands_of(weaving, line):
    """How many strands a line has, whole or fallen."""
    return weaving[1][line][4]


def ends_of(weaving, line):
    """The pair of the houses that a line joins."""
    one, other, cost, groups, strands = weaving[1][line]
    return (one, other)


def other_end(weaving, line, house):
    """The house to which a line leads from a house."""
    one, other = ends_of(weaving, line)
    return other if house == one else one


def whole_strands(weaving, falls, line):
    """The rising list of the numbers of a line's whole strands, whether or not its houses are whole."""
    return [number for number in range(strands_of(weaving, line)) if (line, number) not in falls[1]]


def whole_houses(weaving, falls):
    """The rising list of the houses that aren't fallen."""
    return [house for house in range(len(weaving[0])) if house not in falls[0]]


def stands(weaving, falls, line):
    """Whether both houses of a line and at least one of its strands are whole."""
    one, other = ends_of(weaving, line)
    if one in falls[0] or other in falls[0]:
        return False
    return len(whole_strands(weaving, falls, line)) > 0


def standing(weaving, falls, group):
    """The rising list of the lines that stand and carry the group."""
    lines = weaving[1]
    return [line for line in range(len(lines)) if group in lines[line][3] and stands(weaving, falls, line)]


def carrying_strands(weaving, falls, group):
    """The rising list of the whole strands of the lines that stand and carry the group."""
    lines = standing(weaving, falls, group)
    return [(line, number) for line in lines for number in whole_strands(weaving, falls, line)]


def with_fallen(falls, strands):
    """The falls where these strands, whole so far, are fallen as well."""
    return (falls[0], tuple(sorted([*falls[1], *strands])))


def steps(weaving, falls, group):
    """For each house the list of tuples (house, line, cost): where standing lines of the group lead from it."""
    houses, lines = weaving
    found = [[] for house in houses]
    for line in standing(weaving, falls, group):
        one, other, cost, groups, strands = lines[line]
        found[one].append((other, line, cost))
        found[other].append((one, line, cost))
    return found


def piece_from(ahead, house):
    """The rising list of the houses that hang together with a house; ahead is what steps tells."""
    piece = [house]
    waiting = [house]
    while waiting:
        here = waiting.pop()
        for other, line, cost in ahead[here]:
            if other not in piece:
                piece.append(other)
                waiting.append(other)
    return sorted(piece)


def pieces(weaving, falls, group):
    """The list of the group's pieces, rising lists of houses, by their least house."""
    ahead = steps(weaving, falls, group)
    found = []
    for house in whole_houses(weaving, falls):
        if not any([house in piece for piece in found]):
            found.append(piece_from(ahead, house))
    return found
