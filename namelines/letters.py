"""Where letters can come to, and whether what is told of one that was sent can be so."""

from namelines.kinds import is_number, is_rising, is_tuple_of
from namelines.trees import tree_lines
from namelines.weavings import ends_of, group_at, is_place, other_end, piece_from, places_at, steps, whole_strands


def reached(weaving, falls, group, house):
    """The rising list of all places of the group at houses of a whole house's piece."""
    piece = piece_from(steps(weaving, falls, group), house)
    return [place for home in piece for place in places_at(weaving, group, home)]


def are_places(weaving, group, thing):
    """Whether it is a rising list of places of the group."""
    if not isinstance(thing, list) or not all([is_place(weaving, part) for part in thing]):
        return False
    return is_rising(thing) and all([group_at(weaving, place) == group for place in thing])


def is_step(weaving, falls, thing, lines, houses):
    """Whether it is a tuple (line, strand, house): one of these lines, a whole strand of it, one of these houses."""
    if not is_tuple_of(thing, 3) or not all([is_number(part) for part in thing]):
        return False
    line, strand, house = thing
    if line not in lines or strand not in whole_strands(weaving, falls, line):
        return False
    return house in houses and house in ends_of(weaving, line)


def houses_gone_to(weaving, falls, group, home, gone):
    """The list of the houses to which a letter comes that goes so from a house, None where none can go so."""
    lines = tree_lines(weaving, falls, group)
    houses = [home]
    for step in gone:
        if not is_step(weaving, falls, step, lines, houses):
            return None
        line, strand, house = step
        lines.remove(line)
        houses.append(other_end(weaving, line, house))
    return houses


def shows_sent(weaving, falls, group, place, thing):
    """Whether a thing is a pair (came, gone) that can be told of a letter from that place."""
    if not is_tuple_of(thing, 2):
        return False
    came, gone = thing
    if not are_places(weaving, group, came) or place in came or not isinstance(gone, list):
        return False
    houses = houses_gone_to(weaving, falls, group, place[0], gone)
    return houses is not None and all([house in houses for house, door in came])
