"""[3] and [4]: weavings, falls, lines that stand, pieces."""

import unittest

from namelines.weavings import groups_of, is_falls, is_weaving, pieces, standing, whole_strands
from tests import making
from tests.making import JUNK, LONE, SAMPLE, WHOLE

ALL_FALLEN = ((0, 1, 2, 3, 4), ())


def with_line(line):
    return (((0,), (0,), (0,)), ((0, 1, 1, (0,), 1), line))


class IsWeaving(unittest.TestCase):
    def check_all(self, wanted, things):
        for thing in things:
            with self.subTest(thing=repr(thing)):
                self.assertIs(is_weaving(thing), wanted)

    def test_right_ones(self):
        self.check_all(True, [
            SAMPLE,
            LONE,
            (((0, 7, 0, 7),), ()),
            (((), (), ()), ()),
            (((), ()), ((0, 1, 1, (0, 7), 4),)),
            (((), ()), ((0, 1, 10 ** 12, (3,), 1),) * 3),
            (((),) * 40, ()),
            (((1,) * 50,), ()),
            (((), ()), ((0, 1, 1, (0, 1, 2, 3, 4, 5, 6, 7), 1),) * 30),
        ])

    def test_the_pair(self):
        houses, lines = SAMPLE
        self.check_all(False, [
            (), (houses,), (houses, lines, ()), [houses, lines], (list(houses), lines), (houses, list(lines)),
            (lines, houses), (houses, None), (None, lines), ("", ()), (((),), ""), (((),), 0), (1, 0),
        ])

    def test_houses(self):
        self.check_all(False, [
            ((), ()), (([],), ()), (((), []), ()), ((None,), ()), ((0,), ()), (("",), ()), ((True,), ()),
            (([0],), ()), (((8,),), ()), (((-1,),), ()), (((True,),), ()), (((0, False),), ()), (((None,),), ()),
            ((("0",),), ()), ((((0,),),), ()), (((0,), (0, [0])), ()),
        ])

    def test_a_line_and_its_ends(self):
        self.assertIs(is_weaving(with_line((0, 2, 1, (0,), 1))), True)
        self.check_all(False, [with_line(line) for line in [
            [0, 2, 1, (0,), 1], (), None, 0, "01101", (0, 2, 1, (0,)), (0, 2, 1, (0,), 1, 1),
            (0, 3, 1, (0,), 1), (3, 4, 1, (0,), 1), (-1, 2, 1, (0,), 1), (-2, -1, 1, (0,), 1),
            (2, 2, 1, (0,), 1), (2, 0, 1, (0,), 1), (0, 0, 1, (0,), 1),
            (False, 2, 1, (0,), 1), (0, True, 1, (0,), 1), ("0", 2, 1, (0,), 1), (0, "2", 1, (0,), 1),
            (None, 2, 1, (0,), 1), (0, None, 1, (0,), 1), ((0,), 2, 1, (0,), 1), (0, [2], 1, (0,), 1),
        ]])

    def test_a_cost(self):
        self.assertIs(is_weaving(with_line((0, 2, 1, (0,), 1))), True)
        self.assertIs(is_weaving(with_line((0, 2, 100, (0,), 1))), True)
        self.check_all(False, [
            with_line((0, 2, cost, (0,), 1)) for cost in (0, -1, True, False, None, "1", (1,), [1])
        ])

    def test_what_a_line_carries(self):
        for groups in ((0,), (7,), (0, 1), (2, 5, 7)):
            self.assertIs(is_weaving(with_line((0, 2, 1, groups, 1))), True)
        self.check_all(False, [with_line((0, 2, 1, groups, 1)) for groups in [
            (), [0], [], None, 0, "0", (8,), (-1,), (True,), (False,), (0, True), ("0",), (None,), ((0,),),
            (1, 0), (0, 0), (0, 2, 1), (0, 1, 1), (0, 7, 8), (-1, 0),
        ]])

    def test_strands(self):
        for strands in (1, 2, 3, 4):
            self.assertIs(is_weaving(with_line((0, 2, 1, (0,), strands))), True)
        self.check_all(False, [
            with_line((0, 2, 1, (0,), strands)) for strands in (0, 5, -1, True, False, None, "1", (1,), [1])
        ])

    def test_anything_at_all(self):
        self.check_all(False, JUNK)
        self.check_all(False, [(one, other) for one in JUNK for other in JUNK
                               if not making.slow_is_weaving((one, other))])
        self.assertIs(is_weaving((((),), ())), True)

    def test_near_misses(self):
        for weaving in (SAMPLE, LONE, with_line((1, 2, 3, (2, 4), 2))):
            for thing in making.near_misses(weaving):
                self.assertIs(is_weaving(thing), making.slow_is_weaving(thing), thing)

    def test_made_ones(self):
        for weaving, falls, group in making.made_cases(100):
            self.assertIs(is_weaving(weaving), True, weaving)


class IsFalls(unittest.TestCase):
    def check_all(self, wanted, things, weaving=SAMPLE):
        for thing in things:
            with self.subTest(thing=repr(thing)):
                self.assertIs(is_falls(weaving, thing), wanted)

    def test_right_ones(self):
        every = tuple(making.all_strands(SAMPLE))
        self.check_all(True, [
            WHOLE, ALL_FALLEN, ((0,), ()), ((4,), ()), ((1, 3), ()), ((), ((0, 0),)), ((), ((0, 1),)),
            ((), ((4, 3),)), ((), ((5, 2),)), ((), ((0, 1), (1, 0), (4, 0), (4, 2))), ((), every), ((0, 1, 2, 3, 4), every),
        ])
        self.check_all(True, [WHOLE, ((0,), ())], LONE)

    def test_the_pair(self):
        self.check_all(False, [
            (), ((),), ((), (), ()), [(), ()], ([], ()), ((), []), (None, ()), ((), None), ("", ()), ((), ""),
            (0, 0), None, 0, True, "", ["", ""],
        ])

    def test_houses(self):
        self.check_all(False, [(houses, ()) for houses in [
            (5,), (-1,), (0, 5), (True,), (False,), (0, True), (None,), ("0",), ((0,),), [0], (1, 0), (0, 0), (0, 2, 1),
            (0, 1, 1), 0, ((0, 0),),
        ]])
        self.check_all(False, [((1,), ())], LONE)

    def test_strands(self):
        self.check_all(False, [((), strands) for strands in [
            ((6, 0),), ((-1, 0),), ((0, 2),), ((0, -1),), ((1, 1),), ((4, 4),), ((5, 3),),
            ([0, 0],), [(0, 0)], ((0,),), ((0, 0, 0),), ((),), (0,), (0, 0), (None,), ("00",),
            ((True, 0),), ((False, 0),), ((0, True),), ((0, False),), ((None, 0),), ((0, None),), (("0", 0),), ((0, "0"),),
            (((0,), 0),), ((0, [0]),),
            ((0, 0), (0, 0)), ((0, 1), (0, 0)), ((1, 0), (0, 0)), ((0, 0), (4, 1), (4, 0)), ((0, 0), (4, 1), (4, 1)),
        ]])
        self.check_all(False, [((), ((0, 0),))], LONE)

    def test_anything_at_all(self):
        pairs = [(one, other) for one in JUNK for other in JUNK]
        for thing in JUNK + pairs + [list(pair) for pair in pairs]:
            for weaving in (SAMPLE, LONE):
                self.assertIs(is_falls(weaving, thing), making.slow_is_falls(weaving, thing), thing)

    def test_near_misses(self):
        for thing in making.near_misses(((0, 1, 3), ((0, 0), (0, 1), (1, 0), (4, 2)))):
            self.assertIs(is_falls(SAMPLE, thing), making.slow_is_falls(SAMPLE, thing), thing)

    def test_made_ones(self):
        for weaving, falls, group in making.made_cases(100):
            self.assertIs(is_falls(weaving, falls), True, (weaving, falls))


class GroupsAndStrands(unittest.TestCase):
    def test_groups_of_doors_and_lines(self):
        self.assertEqual(groups_of(SAMPLE), [0, 1, 2, 5])

    def test_groups_of_doors_alone_and_of_lines_alone(self):
        self.assertEqual(groups_of((((7, 3, 3), (), (3, 1)), ())), [1, 3, 7])
        self.assertEqual(groups_of((((), ()), ((0, 1, 1, (6, 7), 1), (0, 1, 1, (0, 6), 1)))), [0, 6, 7])

    def test_no_groups(self):
        self.assertEqual(groups_of(LONE), [])
        self.assertEqual(groups_of((((), ()), ())), [])

    def test_groups_of_made_ones(self):
        for weaving, falls, group in making.made_cases(100):
            wanted = {part for house in weaving[0] for part in house}
            wanted |= {part for line in weaving[1] for part in line[3]}
            self.assertEqual(groups_of(weaving), sorted(wanted))

    def test_whole_strands(self):
        falls = ((), ((0, 0), (4, 0), (4, 2), (5, 0), (5, 1), (5, 2)))
        told = [whole_strands(SAMPLE, falls, line) for line in range(6)]
        self.assertEqual(told, [[1], [0], [0], [0], [1, 3], []])
        told = [whole_strands(SAMPLE, WHOLE, line) for line in range(6)]
        self.assertEqual(told, [[0, 1], [0], [0], [0], [0, 1, 2, 3], [0, 1, 2]])

    def test_whole_strands_of_fallen_houses(self):
        self.assertEqual(whole_strands(SAMPLE, ALL_FALLEN, 4), [0, 1, 2, 3])
        self.assertEqual(whole_strands(SAMPLE, ((2,), ((4, 1),)), 4), [0, 2, 3])


class Standing(unittest.TestCase):
    def test_whole_weaving(self):
        told = [standing(SAMPLE, WHOLE, group) for group in range(8)]
        self.assertEqual(told, [[0, 1, 2, 3, 4, 5], [0], [4], [], [], [3], [], []])

    def test_one_end_fallen(self):
        self.assertEqual(standing(SAMPLE, ((0,), ()), 0), [2, 4, 5])
        self.assertEqual(standing(SAMPLE, ((3,), ()), 0), [0, 1, 2, 3])
        self.assertEqual(standing(SAMPLE, ((4,), ()), 0), [0, 1, 2, 3, 4, 5])

    def test_some_strands_fallen(self):
        self.assertEqual(standing(SAMPLE, ((), ((0, 0), (4, 0), (4, 1), (4, 2), (5, 1))), 0), [0, 1, 2, 3, 4, 5])

    def test_all_strands_fallen(self):
        self.assertEqual(standing(SAMPLE, ((), ((0, 0), (0, 1), (2, 0))), 0), [1, 3, 4, 5])
        self.assertEqual(standing(SAMPLE, ((), tuple(making.all_strands(SAMPLE))), 0), [])

    def test_all_houses_fallen_and_no_lines(self):
        self.assertEqual(standing(SAMPLE, ALL_FALLEN, 0), [])
        self.assertEqual(standing(LONE, WHOLE, 0), [])

    def test_made_ones(self):
        for weaving, falls, group in making.made_cases(300):
            self.assertEqual(standing(weaving, falls, group), making.slow_standing(weaving, falls, group))


class Pieces(unittest.TestCase):
    def test_whole_weaving(self):
        self.assertEqual(pieces(SAMPLE, WHOLE, 0), [[0, 1, 2, 3], [4]])
        self.assertEqual(pieces(SAMPLE, WHOLE, 1), [[0, 1], [2], [3], [4]])
        self.assertEqual(pieces(SAMPLE, WHOLE, 2), [[0], [1], [2, 3], [4]])

    def test_a_group_that_nothing_has(self):
        self.assertEqual(pieces(SAMPLE, WHOLE, 7), [[0], [1], [2], [3], [4]])
        self.assertEqual(pieces(SAMPLE, ((1, 4), ()), 7), [[0], [2], [3]])

    def test_a_fallen_house_is_in_no_piece(self):
        self.assertEqual(pieces(SAMPLE, ((0,), ()), 0), [[1, 2, 3], [4]])
        self.assertEqual(pieces(SAMPLE, ((1, 2), ()), 0), [[0], [3], [4]])
        self.assertEqual(pieces(SAMPLE, ALL_FALLEN, 0), [])

    def test_all_strands_of_a_line_fallen(self):
        self.assertEqual(pieces(SAMPLE, ((), ((0, 0), (0, 1))), 1), [[0], [1], [2], [3], [4]])
        self.assertEqual(pieces(SAMPLE, ((), ((0, 1),)), 1), [[0, 1], [2], [3], [4]])
        self.assertEqual(pieces(SAMPLE, ((), ((1, 0), (2, 0), (5, 0), (5, 1), (5, 2))), 0), [[0, 1], [2, 3], [4]])

    def test_by_their_least_house(self):
        crossed = (((),) * 5, ((0, 4, 1, (0,), 1), (1, 3, 1, (0,), 1), (3, 4, 1, (1,), 1)))
        self.assertEqual(pieces(crossed, WHOLE, 0), [[0, 4], [1, 3], [2]])
        self.assertEqual(pieces(crossed, WHOLE, 1), [[0], [1], [2], [3, 4]])

    def test_one_house(self):
        self.assertEqual(pieces(LONE, WHOLE, 0), [[0]])
        self.assertEqual(pieces(LONE, ((0,), ()), 0), [])

    def test_made_ones(self):
        for weaving, falls, group in making.made_cases(300):
            self.assertEqual(pieces(weaving, falls, group), making.slow_pieces(weaving, falls, group))


if __name__ == "__main__":
    unittest.main()
