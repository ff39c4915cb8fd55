"""[5]: root, far, up, ways by the tree."""

import unittest

from namelines.trees import shows_tree, tree, tree_lines, way_between
from tests import making
from tests.making import JUNK, LONE, SAMPLE, SAMPLE_TREE, WHOLE

ALL_FALLEN = ((0, 1, 2, 3, 4), ())


def plain_lines(*lines):
    """A weaving of group 0 with lines (one, other, cost), and as many houses as these need."""
    many = max(other for one, other, cost in lines) + 1
    return (((),) * many, tuple((one, other, cost, (0,), 1) for one, other, cost in lines))


class Tree(unittest.TestCase):
    def test_whole_weaving(self):
        self.assertEqual(tree(SAMPLE, WHOLE, 0), SAMPLE_TREE)
        self.assertEqual(tree(SAMPLE, WHOLE, 1), [(0, 0, -1), (0, 3, 0), (2, 0, -1), (3, 0, -1), (4, 0, -1)])

    def test_a_tie_goes_to_the_least_house_ahead_of_the_least_line(self):
        weaving = plain_lines((2, 3, 1), (0, 2, 1), (0, 1, 1), (1, 3, 1))
        self.assertEqual(tree(weaving, WHOLE, 0)[3], (0, 2, 3))

    def test_a_tie_of_lines_from_one_house_goes_to_the_least_line(self):
        weaving = plain_lines((0, 1, 2), (0, 1, 1), (0, 1, 1), (0, 1, 1))
        self.assertEqual(tree(weaving, WHOLE, 0), [(0, 0, -1), (0, 1, 1)])

    def test_far_goes_by_costs_not_by_how_many_lines(self):
        weaving = plain_lines((0, 3, 9), (0, 1, 2), (1, 2, 2), (2, 3, 2))
        self.assertEqual(tree(weaving, WHOLE, 0), [(0, 0, -1), (0, 2, 1), (0, 4, 2), (0, 6, 3)])

    def test_up_may_come_from_a_higher_house(self):
        weaving = plain_lines((0, 3, 1), (2, 3, 1), (1, 2, 1))
        self.assertEqual(tree(weaving, WHOLE, 0), [(0, 0, -1), (0, 3, 2), (0, 2, 1), (0, 1, 0)])

    def test_fallen_houses_and_strands(self):
        self.assertEqual(tree(SAMPLE, ((0,), ()), 0), [None, (1, 0, -1), (1, 2, 2), (1, 2, 5), (4, 0, -1)])
        falls = ((), ((0, 0), (0, 1), (3, 0)))
        self.assertEqual(tree(SAMPLE, falls, 0), [(0, 0, -1), (0, 3, 2), (0, 1, 1), (0, 5, 5), (4, 0, -1)])
        self.assertEqual(tree(SAMPLE, ((), ((0, 0),)), 0), SAMPLE_TREE)

    def test_all_houses_fallen(self):
        self.assertEqual(tree(SAMPLE, ALL_FALLEN, 0), [None] * 5)
        self.assertEqual(tree_lines(SAMPLE, ALL_FALLEN, 0), [])

    def test_one_house_no_lines_and_a_group_that_nothing_has(self):
        self.assertEqual(tree(LONE, WHOLE, 0), [(0, 0, -1)])
        self.assertEqual(tree_lines(LONE, WHOLE, 0), [])
        self.assertEqual(tree(SAMPLE, WHOLE, 7), [(house, 0, -1) for house in range(5)])
        self.assertEqual(tree_lines(SAMPLE, WHOLE, 7), [])

    def test_made_ones(self):
        for weaving, falls, group in making.made_cases(400):
            self.assertEqual(tree(weaving, falls, group), making.slow_tree(weaving, falls, group), (weaving, falls, group))


class TreeLines(unittest.TestCase):
    def test_whole_weaving(self):
        self.assertEqual(tree_lines(SAMPLE, WHOLE, 0), [0, 1, 5])
        self.assertEqual(tree_lines(SAMPLE, ((0,), ()), 0), [2, 5])

    def test_rising_whatever_the_order_of_houses(self):
        self.assertEqual(tree_lines(plain_lines((0, 3, 1), (2, 3, 1), (1, 2, 1)), WHOLE, 0), [0, 1, 2])

    def test_made_ones(self):
        for weaving, falls, group in making.made_cases(200):
            ups = [part[2] for part in making.slow_tree(weaving, falls, group) if part is not None]
            self.assertEqual(tree_lines(weaving, falls, group), sorted(up for up in ups if up >= 0))


class WayBetween(unittest.TestCase):
    def test_in_order_and_back(self):
        self.assertEqual(way_between(SAMPLE, WHOLE, 0, 3, 2), [5, 0, 1])
        self.assertEqual(way_between(SAMPLE, WHOLE, 0, 2, 3), [1, 0, 5])
        self.assertEqual(way_between(SAMPLE, WHOLE, 0, 0, 3), [0, 5])
        self.assertEqual(way_between(SAMPLE, WHOLE, 0, 3, 1), [5])

    def test_ways_that_meet_below_the_root(self):
        weaving = plain_lines((0, 1, 1), (1, 2, 1), (1, 3, 1), (3, 4, 1))
        self.assertEqual(way_between(weaving, WHOLE, 0, 2, 4), [1, 2, 3])
        self.assertEqual(way_between(weaving, WHOLE, 0, 4, 1), [3, 2])

    def test_a_house_to_itself(self):
        for house in range(5):
            self.assertEqual(way_between(SAMPLE, WHOLE, 0, house, house), [])

    def test_none_where_not_in_one_piece(self):
        self.assertIsNone(way_between(SAMPLE, WHOLE, 0, 4, 0))
        self.assertIsNone(way_between(SAMPLE, WHOLE, 0, 0, 4))
        self.assertIsNone(way_between(SAMPLE, WHOLE, 7, 0, 1))

    def test_a_fallen_house_is_in_no_piece(self):
        for pair in ((0, 0), (0, 1), (1, 0)):
            self.assertIsNone(way_between(SAMPLE, ((0,), ()), 0, *pair))
        self.assertIsNone(way_between(SAMPLE, ALL_FALLEN, 0, 1, 2))
        self.assertIsNone(way_between(LONE, ((0,), ()), 0, 0, 0))

    def test_made_ones(self):
        for weaving, falls, group in making.made_cases(100):
            for one in range(len(weaving[0])):
                for other in range(len(weaving[0])):
                    told = way_between(weaving, falls, group, one, other)
                    self.assertEqual(told, making.slow_way(weaving, falls, group, one, other))


class ShowsTree(unittest.TestCase):
    def test_what_tree_tells(self):
        self.assertIs(shows_tree(SAMPLE, WHOLE, 0, list(SAMPLE_TREE)), True)
        self.assertIs(shows_tree(SAMPLE, ALL_FALLEN, 0, [None] * 5), True)
        self.assertIs(shows_tree(LONE, WHOLE, 3, [(0, 0, -1)]), True)

    def test_true_and_false_are_no_numbers(self):
        self.assertIs(shows_tree(LONE, WHOLE, 0, [(False, 0, -1)]), False)
        self.assertIs(shows_tree(LONE, WHOLE, 0, [(0, False, -1)]), False)
        pair = plain_lines((0, 1, 1), (0, 1, 1))
        self.assertIs(shows_tree(pair, WHOLE, 0, [(0, 0, -1), (0, 1, 0)]), True)
        self.assertIs(shows_tree(pair, WHOLE, 0, [(0, 0, -1), (0, True, 0)]), False)
        self.assertIs(shows_tree(pair, WHOLE, 0, [(0, 0, -1), (0, 1, False)]), False)

    def test_lists_and_tuples_are_kept_apart(self):
        self.assertIs(shows_tree(LONE, WHOLE, 0, ((0, 0, -1),)), False)
        self.assertIs(shows_tree(LONE, WHOLE, 0, [[0, 0, -1]]), False)

    def test_another_weavings_tree(self):
        self.assertIs(shows_tree(SAMPLE, WHOLE, 1, SAMPLE_TREE), False)
        self.assertIs(shows_tree(SAMPLE, ((4,), ()), 0, SAMPLE_TREE), False)
        self.assertIs(shows_tree(SAMPLE, WHOLE, 0, SAMPLE_TREE[:4]), False)
        self.assertIs(shows_tree(SAMPLE, WHOLE, 0, SAMPLE_TREE + [None]), False)

    def test_near_misses(self):
        for falls in (WHOLE, ((1,), ((2, 0),)), ALL_FALLEN):
            for thing in making.unlike(tree(SAMPLE, falls, 0)):
                self.assertIs(shows_tree(SAMPLE, falls, 0, thing), False, thing)

    def test_anything_at_all(self):
        for thing in JUNK + [[part] for part in JUNK] + [[part] * 5 for part in JUNK]:
            for weaving, falls in ((SAMPLE, WHOLE), (LONE, WHOLE)):
                self.assertIs(shows_tree(weaving, falls, 0, thing), False, thing)
            self.assertIs(shows_tree(LONE, ((0,), ()), 0, thing), repr(thing) == "[None]", thing)


if __name__ == "__main__":
    unittest.main()
