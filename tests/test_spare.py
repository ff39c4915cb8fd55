"""[14], and what [1] says of it: as few strands as part two houses, and as many ways that share none."""

import unittest
from itertools import permutations

from namelines.spare import apart
from namelines.sparecheck import shows_parting, shows_ways
from tests import making, slowdesk
from tests.making import SAMPLE, WHOLE

# Two houses joined by a line of four strands, by one of two, and by one that carries another group alone.
TWINS = (((), (0,)), ((0, 1, 5, (0, 3), 4), (0, 1, 1, (0,), 2), (0, 1, 1, (3,), 3)))
# From 0 to 5. The shortest way, by 1 and 4, stands in the way of the only two that share no strand.
CROSSED = (
    ((),) * 8,
    (
        (0, 1, 1, (0,), 1), (1, 4, 1, (0,), 1), (4, 5, 1, (0,), 1),
        (0, 2, 1, (0,), 1), (2, 3, 1, (0,), 1), (3, 4, 1, (0,), 1),
        (1, 6, 1, (0,), 1), (6, 7, 1, (0,), 1), (5, 7, 1, (0,), 1),
    ),
)


def whole_pairs(weaving, falls):
    return permutations([house for house in range(len(weaving[0])) if house not in falls[0]], 2)


def small_weaving(dice):
    """So few strands that all sets of them can be looked at."""
    many = 2 + dice.below(4)
    lines, strands = [], 0
    while strands < 7:
        one = dice.below(many - 1)
        lines.append((one, one + 1 + dice.below(many - 1 - one), 1 + dice.below(3), ((0,), (0, 1), (0,))[dice.below(3)],
                      (1, 1, 1, 2, 3, 4)[dice.below(6)]))
        strands += lines[-1][4]
    return (((),) * many, tuple(lines))


class Apart(unittest.TestCase):
    def check(self, many, weaving, falls, group, one, other):
        told = apart(weaving, falls, group, one, other)
        self.assertIs(type(told), tuple)
        self.assertEqual([type(part) for part in told], [list, list])
        strands, ways = told
        self.assertEqual((len(strands), len(ways)), (many, many))
        self.assertTrue(all(type(way) is list for way in ways))
        for strand in strands + sum(ways, []):
            self.assertIs(type(strand), tuple)
            self.assertEqual([type(number) for number in strand], [int, int])
        self.assertIs(slowdesk.slow_shows_parting(weaving, falls, group, one, other, strands), True)
        self.assertIs(slowdesk.slow_shows_ways(weaving, falls, group, one, other, ways), True)
        self.assertIs(shows_parting(weaving, falls, group, one, other, strands), True)
        self.assertIs(shows_ways(weaving, falls, group, one, other, ways), True)

    def both(self, many, weaving, falls, group, one, other):
        self.check(many, weaving, falls, group, one, other)
        self.check(many, weaving, falls, group, other, one)

    def test_a_line_of_one_strand(self):
        weaving = (((), ()), ((0, 1, 1, (0,), 1),))
        self.assertEqual(apart(weaving, WHOLE, 0, 0, 1), ([(0, 0)], [[(0, 0)]]))
        self.assertEqual(apart(weaving, WHOLE, 0, 1, 0), ([(0, 0)], [[(0, 0)]]))

    def test_sample(self):
        for many, one, other in ((4, 0, 1), (4, 0, 2), (4, 0, 3), (5, 1, 2), (5, 1, 3), (6, 2, 3)):
            self.both(many, SAMPLE, WHOLE, 0, one, other)
        self.both(2, SAMPLE, WHOLE, 1, 0, 1)
        self.both(1, SAMPLE, WHOLE, 5, 0, 1)
        self.both(4, SAMPLE, WHOLE, 2, 2, 3)

    def test_in_unlike_pieces_already(self):
        for group, one, other in ((0, 0, 4), (0, 3, 4), (1, 0, 2), (2, 0, 1), (7, 0, 1), (5, 2, 3)):
            self.assertEqual(apart(SAMPLE, WHOLE, group, one, other), ([], []))
            self.assertEqual(apart(SAMPLE, WHOLE, group, other, one), ([], []))
        self.assertEqual(apart(SAMPLE, ((0,), ((2, 0), (5, 0), (5, 1), (5, 2))), 0, 1, 2), ([], []))

    def test_several_lines_between_the_same_houses(self):
        self.both(6, TWINS, WHOLE, 0, 0, 1)
        self.both(7, TWINS, WHOLE, 3, 0, 1)
        self.assertEqual(apart(TWINS, WHOLE, 0, 0, 1)[0], [(0, 0), (0, 1), (0, 2), (0, 3), (1, 0), (1, 1)])

    def test_some_or_all_strands_of_a_line_fallen(self):
        self.both(5, TWINS, ((), ((0, 2),)), 0, 0, 1)
        self.both(3, TWINS, ((), ((0, 0), (0, 1), (0, 3))), 0, 0, 1)
        self.assertEqual(apart(TWINS, ((), ((0, 0), (0, 1), (0, 3))), 0, 0, 1)[0], [(0, 2), (1, 0), (1, 1)])
        self.both(2, TWINS, ((), ((0, 0), (0, 1), (0, 2), (0, 3))), 0, 0, 1)
        self.both(1, TWINS, ((), ((0, 0), (0, 1), (0, 2), (0, 3), (1, 1))), 0, 0, 1)
        self.both(3, TWINS, ((), ((0, 0), (0, 1), (0, 2), (0, 3), (1, 1))), 3, 0, 1)
        gone = ((), ((0, 0), (0, 1), (0, 2), (0, 3), (1, 0), (1, 1)))
        self.assertEqual(apart(TWINS, gone, 0, 0, 1), ([], []))

    def test_around_a_fallen_house(self):
        self.both(3, SAMPLE, ((2,), ()), 0, 0, 1)
        self.both(3, SAMPLE, ((2,), ()), 0, 1, 3)
        self.both(1, SAMPLE, ((1,), ()), 0, 0, 3)
        self.assertEqual(apart(SAMPLE, ((1, 2), ()), 0, 0, 3), ([], []))

    def test_ways_that_must_give_way_to_one_another(self):
        self.both(2, CROSSED, WHOLE, 0, 0, 5)
        used = sorted(sum(apart(CROSSED, WHOLE, 0, 0, 5)[1], []))
        self.assertEqual(used, [(line, 0) for line in range(9) if line != 1])
        for one, other in whole_pairs(CROSSED, WHOLE):
            self.check(slowdesk.slow_least(CROSSED, WHOLE, 0, one, other), CROSSED, WHOLE, 0, one, other)

    def test_a_narrow_middle(self):
        lines = ((0, 1, 1, (0,), 4), (0, 2, 1, (0,), 4), (1, 3, 1, (0,), 1), (2, 3, 1, (0,), 2), (3, 4, 1, (0,), 4))
        self.both(3, (((),) * 5, lines), WHOLE, 0, 0, 4)
        self.assertEqual(apart((((),) * 5, lines), WHOLE, 0, 0, 4)[0], [(2, 0), (3, 0), (3, 1)])

    def test_costs_and_doors_count_for_nothing(self):
        lines = tuple(line[:2] + (99 if line[0] == 0 else 1,) + line[3:] for line in CROSSED[1])
        self.both(2, (((0, 1),) * 8, lines), WHOLE, 0, 0, 5)

    def test_beside_all_sets_of_strands(self):
        dice = making.Dice(61)
        told = {}
        for case in range(120):
            weaving = small_weaving(dice)
            falls = WHOLE if case % 3 == 0 else making.made_falls(dice, weaving, 6)
            for one, other in whole_pairs(weaving, falls):
                if one < other or case % 2:
                    least = slowdesk.slow_least(weaving, falls, case % 2, one, other)
                    self.assertEqual(slowdesk.slow_rim(weaving, falls, case % 2, one, other), least)
                    self.check(least, weaving, falls, case % 2, one, other)
                    told[least] = told.get(least, 0) + 1
        self.assertGreater(min(told.get(many, 0) for many in (0, 1, 2, 3)), 15)

    def test_beside_all_sets_of_houses(self):
        for weaving, falls, group in making.made_cases(150, seed=62):
            for one, other in whole_pairs(weaving, falls):
                self.check(slowdesk.slow_rim(weaving, falls, group, one, other), weaving, falls, group, one, other)

    def test_at_the_bounds(self):
        dice = making.Dice(63)
        for case in range(10):
            lines = []
            for line in range(20):
                one = dice.below(11)
                lines.append((one, one + 1 + dice.below(11 - one), 1 + dice.below(99), (0, 7), 4))
            weaving = (tuple((0,) * 6 for house in range(12)), tuple(lines))
            fallen = tuple(strand for strand in making.all_strands(weaving) if case % 2 and dice.below(3) == 0)
            for one, other in ((0, 11), (3, 8), (10, 2)):
                self.check(slowdesk.slow_rim(weaving, ((), fallen), 7, one, other), weaving, ((), fallen), 7, one, other)


if __name__ == "__main__":
    unittest.main()
