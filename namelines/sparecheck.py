"""Whether strands part two houses, whether ways lead between them, and which strands can't be spared."""

from namelines.kinds import is_rising
from namelines.weavings import carrying_strands, ends_of, is_strand, other_end, piece_from, pieces, steps, with_fallen


def is_among(weaving, strands, thing):
    """Whether it is one of these strands."""
    # Its kind is looked at first: Python takes (True, 0) for (1, 0).
    return is_strand(weaving, thing) and thing in strands


def are_parted(weaving, falls, group, one, other):
    """Whether two whole houses are in unlike pieces."""
    return other not in piece_from(steps(weaving, falls, group), one)


def shows_parting(weaving, falls, group, one, other, thing):
    """Whether a thing is a rising list of whole strands of the group's standing lines that part two houses."""
    strands = carrying_strands(weaving, falls, group)
    if not isinstance(thing, list) or not all([is_among(weaving, strands, part) for part in thing]):
        return False
    return is_rising(thing) and are_parted(weaving, with_fallen(falls, thing), group, one, other)


def take_along(weaving, free, house, way):
    """The house to which a way of free strands leads, None where it leads to none; its strands are free no more."""
    here = house
    for strand in way:
        if not is_among(weaving, free, strand) or here not in ends_of(weaving, strand[0]):
            return None
        free.remove(strand)
        here = other_end(weaving, strand[0], here)
    return here


def shows_ways(weaving, falls, group, one, other, thing):
    """Whether a thing is a list of ways from one house to the other that share no strand."""
    if not isinstance(thing, list):
        return False
    free = carrying_strands(weaving, falls, group)
    for way in thing:
        if not isinstance(way, list) or len(way) == 0 or take_along(weaving, free, one, way) != other:
            return False
    return True


def weakest(weaving, falls, group):
    """The rising list of the whole strands each of which alone, where it falls, makes the group's pieces other ones."""
    found = pieces(weaving, falls, group)
    strands = carrying_strands(weaving, falls, group)
    return [strand for strand in strands if pieces(weaving, with_fallen(falls, [strand]), group) != found]
