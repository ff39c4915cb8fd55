"""What the tests share: weavings, wrong things, and the document's words told once more, plainly and slowly."""

from itertools import product

WHOLE = ((), ())

# Ties are built in. Group 0: house 1 is reached from 0 by lines 0 and 3 and from 2 by line 2, house 3
# from 1 by line 5 and from 2 by line 4, always by the same far. House 4 has no line at all.
SAMPLE = (
    ((0, 1), (0,), (), (2, 2, 0), (1,)),
    (
        (0, 1, 3, (0, 1), 2),
        (0, 2, 1, (0,), 1),
        (1, 2, 2, (0,), 1),
        (0, 1, 3, (0, 5), 1),
        (2, 3, 4, (0, 2), 4),
        (1, 3, 2, (0,), 3),
    ),
)
SAMPLE_TREE = [(0, 0, -1), (0, 3, 0), (0, 1, 1), (0, 5, 5), (4, 0, -1)]
SAMPLE_ROWS = [
    [(0, 0, -1), (1, 0, -1), (2, 0, -1), (3, 0, -1), (4, 0, -1)],
    [(0, 0, -1), (0, 3, 0), (0, 1, 1), (1, 2, 5), (4, 0, -1)],
    [(0, 0, -1), (0, 3, 0), (0, 1, 1), (0, 5, 5), (4, 0, -1)],
]

LONE = (((),), ())


def deep(many, wrap):
    thing = 0
    for step in range(many):
        thing = wrap(thing)
    return thing


def in_list(thing):
    return [thing]


def in_tuple(thing):
    return (thing,)


JUNK = [
    None, True, False, 0, 1, -1, 2, 7, 8, 10 ** 30, "", "a", "house", "0", (), [], ((),), [[]], ((), ()), [[], []],
    ((), (), ()), (0,), [0], (0, 0), [0, 0], (None,), (True,), (False, True), ("",), (0, 1, 1, (0,), 1),
    [0, 1, 1, [0], 1], ((0, 0),), [(0, 0)], ([0, 0],), (1, 0), (0, "a"), ("ab", "cd"), (None, None),
    deep(12, in_list), deep(12, in_tuple), (deep(11, in_tuple), deep(11, in_list)),
]


class Dice:
    """Numbers that look thrown, but are the same in every run."""

    def __init__(self, seed):
        self.state = seed

    def below(self, bound):
        self.state = (self.state * 6364136223846793005 + 1442695040888963407) % 2 ** 64
        return (self.state >> 33) % bound


def made_weaving(dice, most_houses=7, most_lines=12, costs=4):
    many = 1 + dice.below(most_houses)
    houses = tuple(tuple(dice.below(4) for door in range(dice.below(4))) for house in range(many))
    lines = []
    for line in range(dice.below(most_lines + 1) if many > 1 else 0):
        one = dice.below(many - 1)
        other = one + 1 + dice.below(many - 1 - one)
        groups = tuple(group for group in range(3) if dice.below(3)) or (dice.below(8),)
        lines.append((one, other, 1 + dice.below(costs), groups, 1 + dice.below(4)))
    return (houses, tuple(lines))


def dense_weaving(dice):
    """Few groups, many doors and lines: names often lie in one group and piece."""
    many = 3 + dice.below(5)
    houses = tuple(tuple(dice.below(2) for door in range(1 + dice.below(3))) for house in range(many))
    lines = []
    for line in range(many + dice.below(6)):
        one = dice.below(many - 1)
        groups = ((0, 1), (0, 1), (0,), (1,))[dice.below(4)]
        lines.append((one, one + 1 + dice.below(many - 1 - one), 1 + dice.below(4), groups, 1 + dice.below(4)))
    return (houses, tuple(lines))


def made_falls(dice, weaving, rarely=5):
    houses = tuple(house for house in range(len(weaving[0])) if dice.below(rarely) == 0)
    strands = tuple(strand for strand in all_strands(weaving) if dice.below(2) == 0)
    return (houses, strands)


def all_strands(weaving):
    return [(at, number) for at, line in enumerate(weaving[1]) for number in range(line[4])]


def made_cases(many, seed=1):
    dice = Dice(seed)
    for case in range(many):
        weaving = made_weaving(dice)
        falls = WHOLE if case % 4 == 0 else made_falls(dice, weaving)
        yield weaving, falls, dice.below(4)


# The document's words once more. Kinds are looked at by type(), so True is no number here.

def slow_is_number(thing, low, high=None):
    return type(thing) is int and low <= thing and (high is None or thing <= high)


def slow_is_weaving(thing):
    if type(thing) is not tuple or len(thing) != 2 or type(thing[0]) is not tuple or type(thing[1]) is not tuple:
        return False
    houses, lines = thing
    if houses == ():
        return False
    for house in houses:
        if type(house) is not tuple or not all(slow_is_number(group, 0, 7) for group in house):
            return False
    return all(slow_is_line(line, len(houses)) for line in lines)


def slow_is_line(line, many):
    if type(line) is not tuple or len(line) != 5:
        return False
    one, other, cost, groups, strands = line
    if not (slow_is_number(one, 0, many - 1) and slow_is_number(other, 0, many - 1) and one < other):
        return False
    if type(groups) is not tuple or not all(slow_is_number(group, 0, 7) for group in groups) or not groups:
        return False
    return list(groups) == sorted(set(groups)) and slow_is_number(cost, 1) and slow_is_number(strands, 1, 4)


def slow_is_falls(weaving, thing):
    if type(thing) is not tuple or len(thing) != 2:
        return False
    return is_choice(thing[0], list(range(len(weaving[0])))) and is_choice(thing[1], all_strands(weaving))


def is_choice(thing, of):
    """Whether it is a rising tuple of some of these, told by how they are written: so True isn't 1."""
    written = [repr(part) for part in of]
    if type(thing) is not tuple or any(repr(part) not in written for part in thing):
        return False
    return list(thing) == sorted(set(thing))


def slow_standing(weaving, falls, group):
    found = []
    for at, (one, other, cost, groups, strands) in enumerate(weaving[1]):
        fallen = sum(1 for line, number in falls[1] if line == at)
        if group in groups and not {one, other} & set(falls[0]) and fallen < strands:
            found.append(at)
    return found


def slow_fars(weaving, falls, group):
    """The least sums of costs between all whole houses, by pairs of houses, without those that don't hang together."""
    whole = [house for house in range(len(weaving[0])) if house not in falls[0]]
    fars = {(house, house): 0 for house in whole}
    for at in slow_standing(weaving, falls, group):
        one, other, cost, groups, strands = weaving[1][at]
        for pair in ((one, other), (other, one)):
            fars[pair] = min(cost, fars.get(pair, cost))
    for middle, one, other in product(whole, whole, whole):
        if (one, middle) in fars and (middle, other) in fars:
            by = fars[one, middle] + fars[middle, other]
            fars[one, other] = min(by, fars.get((one, other), by))
    return fars


def slow_pieces(weaving, falls, group):
    fars = slow_fars(weaving, falls, group)
    whole = [house for house in range(len(weaving[0])) if house not in falls[0]]
    found = [[other for other in whole if (house, other) in fars] for house in whole]
    return sorted([piece for at, piece in enumerate(found) if piece not in found[:at]])


def slow_tree(weaving, falls, group):
    fars = slow_fars(weaving, falls, group)
    told = []
    for house in range(len(weaving[0])):
        if house in falls[0]:
            told.append(None)
            continue
        root = min(other for other in range(len(weaving[0])) if (house, other) in fars)
        ups = []
        for at in slow_standing(weaving, falls, group):
            one, other, cost, groups, strands = weaving[1][at]
            for here, there in ((one, other), (other, one)):
                if there == house and fars.get((root, here), -100) + cost == fars[root, house]:
                    ups.append((here, at))
        told.append((root, fars[root, house], -1 if house == root else min(ups)[1]))
    return told


def slow_way(weaving, falls, group, one, other):
    """The only way by the tree's lines that goes by none twice, found by trying all of them."""
    lines = sorted(part[2] for part in slow_tree(weaving, falls, group) if part and part[2] != -1)
    if one in falls[0] or other in falls[0]:
        return None
    ways = [(one, [])]
    for here, way in ways:
        if here == other:
            return way
        for at in lines:
            if here in weaving[1][at][:2] and at not in way:
                ways.append((sum(weaving[1][at][:2]) - here, way + [at]))
    return None


def slow_rows(weaving, falls, group, many):
    """So many rows, whether or not they are alike."""
    whole = [house for house in range(len(weaving[0])) if house not in falls[0]]
    rows = [[(house, 0, -1) if house in whole else None for house in range(len(weaving[0]))]]
    while len(rows) < many:
        row = [None] * len(weaving[0])
        for house in whole:
            least = (house, 0, -1, -1)
            for at in slow_standing(weaving, falls, group):
                one, other, cost, groups, strands = weaving[1][at]
                if house in (one, other):
                    x = one + other - house
                    least = min(least, (rows[-1][x][0], rows[-1][x][1] + cost, x, at))
            row[house] = (least[0], least[1], least[3])
        rows.append(row)
    return rows


# Things that are almost right: one part of a right one is another one.

def near_misses(thing):
    """Things unlike this one: kinds exchanged, parts put out, doubled, turned round, or wrong ones in their place."""
    if type(thing) in (list, tuple):
        kind = type(thing)
        yield list(thing) if kind is tuple else tuple(thing)
        yield kind(list(thing) + [None])
        yield kind(list(thing)[::-1])
        for at in range(len(thing)):
            ahead, behind = list(thing[:at]), list(thing[at + 1:])
            yield kind(ahead + behind)
            yield kind(ahead + [thing[at], thing[at]] + behind)
            for other in near_misses(thing[at]):
                yield kind(ahead + [other] + behind)
    elif type(thing) is int:
        yield from (thing - 1, thing + 1, -thing, bool(thing), not thing, str(thing), [thing], (thing,), None)
        yield from (8, 5, 10 ** 20)
    else:
        yield from (0, 1, False, True, "", (), [], (0, 0, -1))


def unlike(thing):
    """The near misses less those that are the thing itself."""
    return [other for other in near_misses(thing) if repr(other) != repr(thing)]


def lists_in(thing):
    """All lists in a thing, itself too, each as often as it is there."""
    found = [thing] if type(thing) is list else []
    if type(thing) in (list, tuple):
        for part in thing:
            found += lists_in(part)
    return found
