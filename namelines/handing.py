"""What one house does with a letter: it learns where the sender lies, and hands the letter on."""

from namelines.trees import tree_lines
from namelines.weavings import ends_of, places_at


def ways_at(weaving, falls, group, house):
    """The list of a whole house's ways that carry the group: doors, rising, then lines of the tree, rising."""
    doors = [("door", door) for home, door in places_at(weaving, group, house)]
    lines = [("line", line) for line in tree_lines(weaving, falls, group) if house in ends_of(weaving, line)]
    return doors + lines


def take(table, letter, way, ways):
    """The list of the ways by which a letter goes on that comes by way; the table hears its sender."""
    group, sender, to = letter
    # The sender is heard first: where the table is full, this may put out the very one the letter is sent to.
    table.hear(group, sender, way)
    known = None if to is None else table.way_of(group, to)
    if known in ways:
        return [] if known == way else [known]
    return [other for other in ways if other != way]


def strand_of(sender, to, numbers):
    """The one of these numbers of strands by which a letter goes."""
    signs = sender if to is None else sender + to
    total = sum([ord(sign) - ord("a") for sign in signs])
    return numbers[total % len(numbers)]
