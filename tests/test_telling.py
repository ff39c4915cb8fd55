"""[6], and what [1] promises of telling: the houses come to the one tree."""

import unittest

from namelines.telling import shows_rows, told_rows
from namelines.trees import tree
from tests import making
from tests.making import JUNK, LONE, SAMPLE, SAMPLE_ROWS, WHOLE

ALL_FALLEN = ((0, 1, 2, 3, 4), ())


def chain(many):
    return (((),) * many, tuple((house, house + 1, 1, (0,), 1) for house in range(many - 1)))


class ToldRows(unittest.TestCase):
    def test_whole_weaving(self):
        self.assertEqual(told_rows(SAMPLE, WHOLE, 0), SAMPLE_ROWS)

    def test_an_up_that_changes_last_of_all(self):
        # House 4 hears of the root by 3 first, then by the lesser house 1 and by the same far.
        lines = ((0, 3, 1), (3, 4, 3), (0, 2, 1), (1, 2, 1), (1, 4, 2))
        weaving = (((),) * 5, tuple((one, other, cost, (0,), 1) for one, other, cost in lines))
        self.assertEqual([row[4] for row in told_rows(weaving, WHOLE, 0)],
                         [(4, 0, -1), (1, 2, 4), (0, 4, 1), (0, 4, 4)])

    def test_all_at_once(self):
        self.assertEqual(told_rows(chain(3), WHOLE, 0), [
            [(0, 0, -1), (1, 0, -1), (2, 0, -1)],
            [(0, 0, -1), (0, 1, 0), (1, 1, 1)],
            [(0, 0, -1), (0, 1, 0), (0, 2, 1)],
        ])

    def test_one_row_where_nothing_is_to_be_learned(self):
        self.assertEqual(told_rows(LONE, WHOLE, 0), [[(0, 0, -1)]])
        self.assertEqual(told_rows(LONE, ((0,), ()), 0), [[None]])
        self.assertEqual(told_rows(SAMPLE, ALL_FALLEN, 0), [[None] * 5])
        self.assertEqual(told_rows(SAMPLE, WHOLE, 7), [[(house, 0, -1) for house in range(5)]])
        self.assertEqual(told_rows((((), ()), ()), WHOLE, 0), [[(0, 0, -1), (1, 0, -1)]])

    def test_fallen_houses_tell_nothing_in_each_row(self):
        self.assertEqual(told_rows(SAMPLE, ((0,), ()), 0), [
            [None, (1, 0, -1), (2, 0, -1), (3, 0, -1), (4, 0, -1)],
            [None, (1, 0, -1), (1, 2, 2), (1, 2, 5), (4, 0, -1)],
        ])

    def test_all_strands_of_a_line_fallen(self):
        self.assertEqual(told_rows(chain(3), ((), ((1, 0),)), 0), [
            [(0, 0, -1), (1, 0, -1), (2, 0, -1)],
            [(0, 0, -1), (0, 1, 0), (2, 0, -1)],
        ])

    def test_made_ones(self):
        for weaving, falls, group in making.made_cases(300):
            told = told_rows(weaving, falls, group)
            slow = making.slow_rows(weaving, falls, group, len(told) + 1)
            self.assertEqual(told, slow[:-1])
            self.assertEqual(slow[-1], slow[-2])
            self.assertTrue(all(one != other for one, other in zip(told, told[1:])))


class TheOneTree(unittest.TestCase):
    def check_one(self, weaving, falls, group):
        told = told_rows(weaving, falls, group)
        self.assertEqual(told[-1], tree(weaving, falls, group))
        self.assertEqual(told[-1], making.slow_tree(weaving, falls, group))
        self.assertLessEqual(len(told), max(1, len(weaving[0]) - len(falls[0])))

    def test_a_chain_needs_as_many_rows_as_it_has_houses(self):
        for many in range(1, 13):
            self.assertEqual(len(told_rows(chain(many), WHOLE, 0)), many)
            self.check_one(chain(many), WHOLE, 0)

    def test_made_ones(self):
        for weaving, falls, group in making.made_cases(300, seed=7):
            self.check_one(weaving, falls, group)

    def test_behind_each_fall_and_mending(self):
        dice = making.Dice(5)
        for case in range(20):
            weaving = making.made_weaving(dice, 9, 16)
            strands = making.all_strands(weaving)
            fallen = [set(), set()]
            for deed in range(20):
                of = dice.below(2) if strands else 0
                thing = strands[dice.below(len(strands))] if of else dice.below(len(weaving[0]))
                fallen[of] ^= {thing}
                falls = (tuple(sorted(fallen[0])), tuple(sorted(fallen[1])))
                for group in (0, 1):
                    self.check_one(weaving, falls, group)


class ShowsRows(unittest.TestCase):
    def test_what_told_rows_tells(self):
        self.assertIs(shows_rows(SAMPLE, WHOLE, 0, [list(row) for row in SAMPLE_ROWS]), True)
        self.assertIs(shows_rows(SAMPLE, ALL_FALLEN, 0, [[None] * 5]), True)

    def test_too_few_and_too_many_rows(self):
        self.assertIs(shows_rows(SAMPLE, WHOLE, 0, SAMPLE_ROWS[:-1]), False)
        self.assertIs(shows_rows(SAMPLE, WHOLE, 0, SAMPLE_ROWS[1:]), False)
        self.assertIs(shows_rows(SAMPLE, WHOLE, 0, SAMPLE_ROWS + SAMPLE_ROWS[-1:]), False)
        self.assertIs(shows_rows(SAMPLE, WHOLE, 0, []), False)
        self.assertIs(shows_rows(SAMPLE, ALL_FALLEN, 0, []), False)

    def test_true_and_false_are_no_numbers(self):
        self.assertIs(shows_rows(LONE, WHOLE, 0, [[(0, 0, -1)]]), True)
        self.assertIs(shows_rows(LONE, WHOLE, 0, [[(False, 0, -1)]]), False)
        right = [[(0, 0, -1), (1, 0, -1)], [(0, 0, -1), (0, 1, 0)]]
        self.assertIs(shows_rows(chain(2), WHOLE, 0, right), True)
        self.assertIs(shows_rows(chain(2), WHOLE, 0, [right[0], [(0, 0, -1), (0, True, 0)]]), False)

    def test_lists_and_tuples_are_kept_apart(self):
        self.assertIs(shows_rows(LONE, WHOLE, 0, ([(0, 0, -1)],)), False)
        self.assertIs(shows_rows(LONE, WHOLE, 0, [((0, 0, -1),)]), False)
        self.assertIs(shows_rows(LONE, WHOLE, 0, [[[0, 0, -1]]]), False)

    def test_near_misses(self):
        for falls in (WHOLE, ((1,), ((2, 0),)), ALL_FALLEN):
            for thing in making.unlike(told_rows(SAMPLE, falls, 0)):
                self.assertIs(shows_rows(SAMPLE, falls, 0, thing), False, thing)

    def test_anything_at_all(self):
        for thing in JUNK + [[part] for part in JUNK] + [[[part]] for part in JUNK]:
            self.assertIs(shows_rows(SAMPLE, WHOLE, 0, thing), False, thing)
            self.assertIs(shows_rows(LONE, WHOLE, 0, thing), False, thing)
            self.assertIs(shows_rows(LONE, ((0,), ()), 0, thing), repr(thing) == "[[None]]", thing)


if __name__ == "__main__":
    unittest.main()
