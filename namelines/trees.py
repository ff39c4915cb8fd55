"""The tree of each piece: how far each house is from its root, and by which line it hangs."""

from namelines.kinds import is_same
from namelines.weavings import other_end, pieces, steps


def fars_from(ahead, root):
    """A dict of the fars of all houses of the root's piece; ahead is what steps tells."""
    fars = {}
    waiting = [(0, root)]
    while waiting:
        # The nearest one waiting can't be reached by less: costs are 1 or more.
        far, house = min(waiting)
        waiting.remove((far, house))
        if house not in fars:
            fars[house] = far
            for other, line, cost in ahead[house]:
                waiting.append((far + cost, other))
    return fars


def up_of(ahead, fars, house):
    """The line by which a house hangs in its tree, -1 of the root."""
    if fars[house] == 0:
        return -1
    ups = [(other, line) for other, line, cost in ahead[house] if fars[other] + cost == fars[house]]
    other, line = min(ups)
    return line


def tree(weaving, falls, group):
    """A list with for each house a tuple (root, far, up), None of a fallen one."""
    ahead = steps(weaving, falls, group)
    told = [None for house in weaving[0]]
    for piece in pieces(weaving, falls, group):
        root = piece[0]
        fars = fars_from(ahead, root)
        for house in piece:
            told[house] = (root, fars[house], up_of(ahead, fars, house))
    return told


def tree_lines(weaving, falls, group):
    """The rising list of the tree's lines."""
    told = [part for part in tree(weaving, falls, group) if part is not None]
    return sorted([up for root, far, up in told if up != -1])


def way_to_root(weaving, told, house):
    """The list of the lines from a house to its root, in order; told is what tree tells."""
    way = []
    here = house
    root, far, up = told[here]
    while up != -1:
        way.append(up)
        here = other_end(weaving, up, here)
        root, far, up = told[here]
    return way


def way_in(weaving, told, one, other):
    """What way_between tells; told is what tree tells."""
    if told[one] is None or told[other] is None or told[one][0] != told[other][0]:
        return None
    upward = way_to_root(weaving, told, one)
    downward = way_to_root(weaving, told, other)
    # What both share lies between the root and the house where the ways meet.
    while upward and downward and upward[-1] == downward[-1]:
        upward.pop()
        downward.pop()
    return upward + downward[::-1]


def way_between(weaving, falls, group, one, other):
    """The list of the tree's lines from a house to another, None where they aren't in one piece."""
    return way_in(weaving, tree(weaving, falls, group), one, other)


def shows_tree(weaving, falls, group, thing):
    """Whether a thing is what tree tells."""
    return is_same(thing, tree(weaving, falls, group))
