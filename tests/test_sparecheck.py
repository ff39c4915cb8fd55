"""[14]: whether strands part two houses, whether ways lead between them, and which strands can't be spared."""

import unittest

from namelines.spare import apart
from namelines.sparecheck import shows_parting, shows_ways, weakest
from tests import making, slowdesk
from tests.making import JUNK, LONE, SAMPLE, WHOLE
from tests.test_spare import CROSSED, TWINS, small_weaving, whole_pairs

# Houses, lines and strands of which each has just 0 and 1 for numbers, so that True and False could pass for them.
SMALL = (((), ()), ((0, 1, 1, (0,), 2), (0, 1, 1, (0,), 2)))
ALL_SMALL = [(0, 0), (0, 1), (1, 0), (1, 1)]
# A ring of four houses, with a house that hangs on by one strand and one that hangs on by two.
RING = (
    ((),) * 6,
    (
        (0, 1, 1, (0, 1), 1), (1, 2, 1, (0,), 1), (2, 3, 1, (0,), 1), (0, 3, 1, (0,), 1), (3, 4, 1, (0, 1), 1),
        (3, 5, 1, (0,), 2),
    ),
)


def junk_around():
    """Junk alone, and in each place where a list, a strand or a number of one may stand."""
    yield from JUNK
    for part in JUNK:
        yield from ([part], [(0, 0), part], [part, (1, 1)], [(part, 0)], [(0, part)], [[part]], [[(part, 0)]],
                    [[(0, part)]], [[(0, 0), part]], [[(0, 0)], part], ([part],))
    for one in JUNK:
        for other in JUNK:
            yield from ([one, other], [(one, other)], [[one, other]], [[one], [other]], [[(one, other)]])


class ShowsParting(unittest.TestCase):
    def check_all(self, wanted, things, weaving=SAMPLE, falls=WHOLE, group=0, one=0, other=3):
        for thing in things:
            with self.subTest(thing=repr(thing)):
                self.assertIs(shows_parting(weaving, falls, group, one, other, thing), wanted)
                self.assertIs(shows_parting(weaving, falls, group, other, one, thing), wanted)
                self.assertIs(slowdesk.slow_shows_parting(weaving, falls, group, one, other, thing), wanted)

    def test_right_ones(self):
        self.check_all(True, [
            [(0, 0), (0, 1), (1, 0), (3, 0)],
            [(1, 0), (2, 0), (5, 0), (5, 1), (5, 2)],
            [(4, 0), (4, 1), (4, 2), (4, 3), (5, 0), (5, 1), (5, 2)],
        ])

    def test_larger_than_need_be(self):
        self.check_all(True, [
            [(0, 0), (0, 1), (1, 0), (2, 0), (3, 0)],
            [(0, 0), (0, 1), (1, 0), (3, 0), (4, 2)],
            making.all_strands(SAMPLE),
        ])

    def test_too_few(self):
        self.check_all(False, [
            [], [(0, 0), (0, 1), (1, 0)], [(0, 0), (1, 0), (3, 0)], [(4, 0), (4, 1), (4, 2), (4, 3)],
            [(0, 1), (1, 0), (2, 0), (3, 0), (4, 0), (5, 0), (5, 1)],
        ])

    def test_parted_already(self):
        self.check_all(True, [[], [(2, 0)], [(0, 0), (0, 1)], making.all_strands(SAMPLE)], other=4)
        self.check_all(True, [[], [(0, 1)]], group=1)
        self.check_all(True, [[]], group=7)
        self.check_all(False, [[(9, 0)], [(2, 0), (0, 0)], None, ()], other=4)

    def test_rising(self):
        self.check_all(False, [
            [(0, 1), (0, 0), (1, 0), (3, 0)], [(0, 0), (0, 1), (3, 0), (1, 0)],
            [(0, 0), (0, 0), (0, 1), (1, 0), (3, 0)],
            [(3, 0), (1, 0), (0, 1), (0, 0)], [(0, 0), (0, 1), (1, 0), (3, 0), (3, 0)],
        ])

    def test_strands_that_there_are_not(self):
        right = [(0, 0), (0, 1), (1, 0), (3, 0)]
        self.check_all(False,
                       [right + [(4, 4)], right + [(6, 0)], [(-1, 0)] + right, [(0, -1)] + right, right + [(99, 0)]])
        self.check_all(False, [sorted(right + [(1, 1)]), sorted(right + [(0, 2)])])

    def test_strands_that_are_fallen_already(self):
        falls = ((), ((0, 0), (4, 1)))
        self.check_all(True, [[(0, 1), (1, 0), (3, 0)], [(0, 1), (1, 0), (3, 0), (4, 0)]], falls=falls)
        self.check_all(False, [[(0, 0), (0, 1), (1, 0), (3, 0)], [(0, 1), (1, 0), (3, 0), (4, 1)]], falls=falls)

    def test_strands_of_lines_that_do_not_stand(self):
        self.check_all(True, [[(4, 0), (4, 1), (4, 2), (4, 3)], [(1, 0)]], falls=((1,), ()))
        self.check_all(False, [[(0, 0), (1, 0)], [(1, 0), (5, 0)], [(1, 0), (2, 0)]], falls=((1,), ()))

    def test_strands_of_lines_that_do_not_carry_the_group(self):
        self.check_all(True, [[(0, 0), (0, 1)]], group=1, other=1)
        self.check_all(False, [[(0, 0), (0, 1), (1, 0)], [(0, 0), (0, 1), (3, 0)], [(0, 1)], []], group=1, other=1)
        self.check_all(False, [[(0, 0), (0, 1), (0, 2), (0, 3), (1, 0), (1, 1), (2, 0)]], weaving=TWINS, other=1)

    def test_kinds(self):
        right = [(0, 0), (0, 1), (1, 0), (1, 1)]
        self.check_all(True, [right], weaving=SMALL, other=1)
        self.check_all(False, [
            tuple(right), [list(part) for part in right], [[0, 0]] + right[1:], right[:3] + [[1, 1]], [right], (right,),
            [(False, 0)] + right[1:], [(0, False)] + right[1:], right[:3] + [(True, 1)], right[:3] + [(1, True)],
            [(0, 0), (0, True), (1, 0), (1, 1)], right + [None], right + [()], right + [(1, 1, 0)], right + [(2,)],
            right + ["11"], "", "0011", None, True, False, 0, 1, (), right[:3] + [("1", 1)], right[:3] + [(1, None)],
            right[:3] + [((1,), 1)], right[:3] + [(1, [1])],
        ], weaving=SMALL, other=1)

    def test_near_misses(self):
        for weaving, falls, group, other, thing in (
                (SMALL, WHOLE, 0, 1, ALL_SMALL),
                (SAMPLE, WHOLE, 0, 3, [(0, 0), (0, 1), (1, 0), (3, 0)]),
                (SAMPLE, ((2,), ((5, 1),)), 0, 3, [(5, 0), (5, 2)]),
                (SAMPLE, WHOLE, 0, 4, [(0, 0)])):
            self.assertIs(shows_parting(weaving, falls, group, 0, other, thing), True)
            for near in making.unlike(thing):
                wanted = slowdesk.slow_shows_parting(weaving, falls, group, 0, other, near)
                self.assertIs(shows_parting(weaving, falls, group, 0, other, near), wanted, near)

    def test_anything_at_all(self):
        parted = ((), tuple(ALL_SMALL[:3]))
        for falls in (WHOLE, parted):
            for thing in junk_around():
                wanted = slowdesk.slow_shows_parting(SMALL, falls, 0, 0, 1, thing)
                self.assertIs(shows_parting(SMALL, falls, 0, 0, 1, thing), wanted, thing)

    def test_made_ones(self):
        dice = making.Dice(71)
        told = {False: 0, True: 0}
        for case in range(150):
            weaving = small_weaving(dice)
            falls = WHOLE if case % 3 == 0 else making.made_falls(dice, weaving, 6)
            for one, other in whole_pairs(weaving, falls):
                rarely = 2 + dice.below(6)
                thing = [strand for strand in slowdesk.free_strands(weaving, falls, 0) if dice.below(rarely)]
                wanted = slowdesk.slow_shows_parting(weaving, falls, 0, one, other, thing)
                self.assertIs(shows_parting(weaving, falls, 0, one, other, thing), wanted)
                told[wanted] += 1
        self.assertGreater(min(told.values()), 100)


class ShowsWays(unittest.TestCase):
    def check_all(self, wanted, things, weaving=SAMPLE, falls=WHOLE, group=0, one=0, other=3):
        for thing in things:
            with self.subTest(thing=repr(thing)):
                self.assertIs(shows_ways(weaving, falls, group, one, other, thing), wanted)
                self.assertIs(slowdesk.slow_shows_ways(weaving, falls, group, one, other, thing), wanted)

    def test_right_ones(self):
        self.check_all(True, [
            [[(0, 0), (5, 0)]],
            [[(1, 0), (4, 3)]],
            [[(0, 0), (5, 0)], [(0, 1), (5, 1)], [(1, 0), (4, 0)], [(3, 0), (5, 2)]],
            [[(3, 0), (5, 2)], [(1, 0), (4, 0)], [(0, 1), (5, 1)]],
            [[(1, 0), (2, 0), (5, 1)]],
        ])

    def test_no_way(self):
        self.check_all(True, [[]])
        self.check_all(True, [[]], other=4)
        self.check_all(True, [[]], group=7)

    def test_backwards(self):
        self.check_all(True, [[[(5, 0), (0, 0)]], [[(4, 3), (1, 0)], [(5, 2), (3, 0)]]], one=3, other=0)
        self.check_all(False, [[[(0, 0), (5, 0)]], [[(4, 3), (1, 0)], [(3, 0), (5, 2)]]], one=3, other=0)

    def test_a_way_that_comes_to_a_house_twice(self):
        self.check_all(True, [
            [[(0, 0), (0, 1), (3, 0), (5, 0)]],
            [[(1, 0), (4, 0), (4, 1), (4, 2)]],
            [[(0, 0), (5, 0), (5, 1), (5, 2)]],
            [[(0, 0), (3, 0), (1, 0), (4, 0)], [(0, 1), (5, 0)]],
        ])

    def test_a_strand_twice_in_one_way(self):
        self.check_all(False, [
            [[(0, 0), (0, 0), (0, 0), (5, 0)]], [[(0, 0), (5, 0), (5, 1), (5, 0)]], [[(1, 0), (4, 0), (4, 1), (4, 0)]],
        ])

    def test_a_strand_in_two_ways(self):
        self.check_all(False, [
            [[(0, 0), (5, 0)], [(0, 1), (5, 0)]], [[(0, 0), (5, 0)], [(0, 0), (5, 1)]],
            [[(0, 0), (5, 0)], [(0, 0), (5, 0)]],
            [[(0, 0), (5, 0)], [(1, 0), (4, 0)], [(3, 0), (5, 0)]],
        ])

    def test_a_way_that_leads_elsewhere(self):
        self.check_all(False, [
            [[(0, 0)]], [[(5, 0)]], [[(0, 0), (4, 0)]], [[(0, 0), (5, 0), (4, 0)]], [[(0, 0), (2, 0)]],
            [[(5, 0), (0, 0)]],
            [[(0, 0), (5, 0), (5, 1)]], [[(0, 0), (5, 0)], [(1, 0)]], [[(1, 0)], [(0, 0), (5, 0)]], [[(0, 0), (1, 0)]],
            [[(0, 0), (0, 1)]], [[(4, 0)]],
        ])

    def test_a_strand_that_does_not_begin_where_the_way_stands(self):
        # Each ends at the house to which it should lead, or begins there.
        self.check_all(False,
                       [[[(5, 0)]], [[(4, 0)]], [[(0, 0), (4, 0)]], [[(1, 0), (5, 0)]], [[(0, 0), (2, 0), (5, 0)]]])
        self.check_all(False,
                       [[[(0, 0)]], [[(1, 0)]], [[(5, 0), (1, 0)]], [[(4, 0), (0, 0)]], [[(5, 0), (5, 1), (0, 0)]]],
                       one=3, other=0)
        self.check_all(False, [[[(5, 0)]], [[(1, 0), (5, 0)]], [[(4, 0), (2, 0)], [(0, 0), (5, 0)]]], one=2, other=1)
        self.check_all(True, [[[(2, 0)]], [[(1, 0), (0, 0)]], [[(4, 0), (5, 0)], [(2, 0)]]], one=2, other=1)

    def test_strands_thrown_together(self):
        dice = making.Dice(75)
        told = {False: 0, True: 0}
        for case in range(6000):
            one = dice.below(4)
            other = (one + 1 + dice.below(3)) % 4
            strands = making.all_strands(SAMPLE)
            thing = [[strands[dice.below(len(strands))] for strand in range(1 + dice.below(3))] for way in range(1 + dice.below(2))]
            wanted = slowdesk.slow_shows_ways(SAMPLE, WHOLE, 0, one, other, thing)
            self.assertIs(shows_ways(SAMPLE, WHOLE, 0, one, other, thing), wanted, thing)
            told[wanted] += 1
        self.assertGreater(min(told.values()), 200)

    def test_an_empty_way(self):
        self.check_all(False, [[[]], [[], [(0, 0), (5, 0)]], [[(0, 0), (5, 0)], []], [[], []]])
        self.check_all(False, [[[]]], other=4)

    def test_strands_that_there_are_not(self):
        self.check_all(False, [
            [[(0, 2), (5, 0)]], [[(0, 0), (5, 3)]], [[(0, -1), (5, 0)]], [[(-6, 0), (5, 0)]], [[(0, 0), (6, 0)]],
            [[(0, 0), (-1, 0)]],
        ])

    def test_fallen_strands(self):
        falls = ((), ((0, 0), (5, 1)))
        self.check_all(True, [[[(0, 1), (5, 0)]], [[(3, 0), (5, 2)], [(0, 1), (5, 0)]]], falls=falls)
        self.check_all(False, [[[(0, 0), (5, 0)]], [[(0, 1), (5, 1)]], [[(0, 1), (5, 0)], [(3, 0), (5, 1)]]],
                       falls=falls)

    def test_lines_that_do_not_stand(self):
        self.check_all(True, [[[(1, 0), (4, 0)]]], falls=((1,), ()))
        self.check_all(False, [[[(0, 0), (5, 0)]], [[(1, 0), (2, 0), (5, 0)]]], falls=((1,), ()))

    def test_lines_that_do_not_carry_the_group(self):
        self.check_all(True, [[[(0, 0)]], [[(0, 0)], [(0, 1)]]], group=1, other=1)
        self.check_all(False, [[[(3, 0)]], [[(1, 0), (2, 0)]], [[(0, 0)], [(3, 0)]]], group=1, other=1)

    def test_kinds(self):
        right = [[(0, 0)], [(0, 1)], [(1, 1)]]
        self.check_all(True, [right, right + [[(1, 0)]]], weaving=SMALL, other=1)
        self.check_all(False, [
            tuple(right), [tuple(way) for way in right], right[:2] + [((1, 1),)], [[[0, 0]]], [[(0, 0)], [[0, 1]]],
            [right],
            [(0, 0)], (right,), [[(False, 0)]], [[(0, False)]], [[(True, 1)]], [[(1, True)]],
            [[(0, 0), (1, 0), (0, True)]],
            right + [None], right + [()], right + [0], right + [""], [[(0, 0, 0)]], [[(0,)]], [[()]], [[None]], [[0]],
            [[""]],
            [["00"]], [[("0", 0)]], [[(0, None)]], [[(0, (0,))]], None, True, False, 0, 1, "", "ab", (),
            [[(0, 0)], True],
        ], weaving=SMALL, other=1)

    def test_near_misses(self):
        for weaving, falls, other, thing in (
                (SMALL, WHOLE, 1, [[(0, 0)], [(0, 1)], [(1, 0)]]),
                (SMALL, WHOLE, 1, [[(1, 1), (0, 0), (0, 1)]]),
                (SAMPLE, WHOLE, 3, [[(0, 0), (5, 0)], [(1, 0), (4, 3)]]),
                (SAMPLE, ((2,), ((5, 1),)), 3, [[(0, 1), (5, 0)], [(3, 0), (5, 2)]])):
            self.assertIs(shows_ways(weaving, falls, 0, 0, other, thing), True)
            for near in making.unlike(thing):
                wanted = slowdesk.slow_shows_ways(weaving, falls, 0, 0, other, near)
                self.assertIs(shows_ways(weaving, falls, 0, 0, other, near), wanted, near)

    def test_anything_at_all(self):
        for thing in junk_around():
            wanted = slowdesk.slow_shows_ways(SMALL, WHOLE, 0, 0, 1, thing)
            self.assertIs(shows_ways(SMALL, WHOLE, 0, 0, 1, thing), wanted, thing)

    def test_made_ones(self):
        dice = making.Dice(72)
        told = {False: 0, True: 0}
        for case in range(150):
            weaving = small_weaving(dice)
            falls = WHOLE if case % 3 == 0 else making.made_falls(dice, weaving, 6)
            for one, other in whole_pairs(weaving, falls):
                thing = apart(weaving, falls, 0, one, other)[1]
                for way in thing:
                    if dice.below(5) == 0:
                        way.insert(dice.below(len(way) + 1), way[dice.below(len(way))])
                    if dice.below(5) == 0:
                        way.reverse()
                    if dice.below(5) == 0:
                        way += (way[-1], way[-1])
                wanted = slowdesk.slow_shows_ways(weaving, falls, 0, one, other, thing)
                self.assertIs(shows_ways(weaving, falls, 0, one, other, thing), wanted)
                told[wanted] += 1
        self.assertGreater(min(told.values()), 100)


class Weakest(unittest.TestCase):
    def test_ordinary_ones(self):
        self.assertEqual(weakest(RING, WHOLE, 0), [(4, 0)])
        self.assertEqual(weakest(RING, WHOLE, 1), [(0, 0), (4, 0)])
        self.assertEqual(weakest(SAMPLE, WHOLE, 0), [])
        self.assertEqual(weakest(SAMPLE, WHOLE, 1), [])
        self.assertEqual(weakest(SAMPLE, WHOLE, 5), [(3, 0)])
        self.assertEqual(weakest(CROSSED, WHOLE, 0), [])

    def test_none(self):
        self.assertEqual(weakest(LONE, WHOLE, 0), [])
        self.assertEqual(weakest(SAMPLE, WHOLE, 7), [])
        self.assertEqual(weakest(SAMPLE, ((0, 1, 2, 3, 4), ()), 0), [])
        self.assertEqual(weakest(TWINS, ((), ((0, 0), (0, 1), (0, 2), (0, 3), (1, 0), (1, 1))), 0), [])

    def test_where_something_is_fallen(self):
        self.assertEqual(weakest(RING, ((), ((5, 0),)), 0), [(4, 0), (5, 1)])
        self.assertEqual(weakest(RING, ((), ((1, 0), (5, 1))), 0), [(0, 0), (2, 0), (3, 0), (4, 0), (5, 0)])
        self.assertEqual(weakest(RING, ((1,), ()), 0), [(2, 0), (3, 0), (4, 0)])
        self.assertEqual(weakest(RING, ((3,), ()), 0), [(0, 0), (1, 0)])
        self.assertEqual(weakest(TWINS, ((), ((0, 0), (0, 1), (0, 2), (0, 3), (1, 0))), 0), [(1, 1)])
        self.assertEqual(weakest(TWINS, ((), ((0, 0), (0, 1), (0, 3), (1, 0), (1, 1))), 0), [(0, 2)])

    def test_made_ones(self):
        found = 0
        for weaving, falls, group in making.made_cases(500, seed=73):
            told = weakest(weaving, falls, group)
            self.assertIs(type(told), list)
            self.assertEqual(told, slowdesk.slow_weakest(weaving, falls, group))
            found += len(told)
        self.assertGreater(found, 100)

    def test_a_weakest_strand_parts_its_own_ends_alone(self):
        for weaving, falls, group in making.made_cases(100, seed=74):
            told = weakest(weaving, falls, group)
            for strand in slowdesk.free_strands(weaving, falls, group):
                one, other = weaving[1][strand[0]][:2]
                alone = apart(weaving, falls, group, one, other)[0] == [strand]
                self.assertEqual(strand in told, alone)
                self.assertEqual(strand in told, shows_parting(weaving, falls, group, one, other, [strand]))


if __name__ == "__main__":
    unittest.main()
