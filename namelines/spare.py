"""What parts two houses: as few strands as can be, and as many ways that share none."""

from namelines.weavings import carrying_strands, ends_of, other_end


def spread(weaving, strands, taken, one):
    """How each house is come to that can still be reached: a dict of pairs (house ahead, strand), None of the first."""
    came = {one: None}
    waiting = [one]
    while waiting:
        here = waiting.pop(0)
        for strand in strands:
            # A strand that is taken can only be gone back by: ways that stand in one another's way are parted anew so.
            if here in ends_of(weaving, strand[0]) and taken.get(strand) != here:
                there = other_end(weaving, strand[0], here)
                if there not in came:
                    came[there] = (here, strand)
                    waiting.append(there)
    return came


def take_way(taken, came, other):
    """The strands by which the other house was come to are taken; those gone back by are free again."""
    step = came[other]
    while step is not None:
        here, strand = step
        if strand in taken:
            del taken[strand]
        else:
            taken[strand] = here
        step = came[here]


def draw_way(weaving, taken, one, other):
    """The list of taken strands that lead from one house to the other, one behind the other; they are free again."""
    way = []
    here = one
    while here != other:
        strand = min([leading for leading in taken if taken[leading] == here])
        del taken[strand]
        way.append(strand)
        here = other_end(weaving, strand[0], here)
    return way


def is_rim(weaving, came, strand):
    """Whether just one of a strand's two houses can be reached."""
    one, other = ends_of(weaving, strand[0])
    return (one in came) != (other in came)


def apart(weaving, falls, group, one, other):
    """A tuple (strands, ways): the least strands that part two houses, and as many ways that share none."""
    strands = carrying_strands(weaving, falls, group)
    # For each taken strand the house from which a way leads along it.
    taken = {}
    came = spread(weaving, strands, taken, one)
    while other in came:
        take_way(taken, came, other)
        came = spread(weaving, strands, taken, one)
    # Each way leaves what can still be reached by a strand of its own, so there are as many strands as ways.
    parting = [strand for strand in strands if is_rim(weaving, came, strand)]
    return (parting, [draw_way(weaving, taken, one, other) for strand in parting])
