"""[8]: what one house does with a letter."""

import unittest

from namelines.handing import strand_of, take, ways_at
from namelines.tables import Table
from tests import making, slowpost
from tests.making import LONE, SAMPLE, WHOLE

WAYS = [("door", 0), ("door", 2), ("line", 1), ("line", 4)]


class WaysAt(unittest.TestCase):
    def test_doors_then_lines_of_the_tree(self):
        self.assertEqual(ways_at(SAMPLE, WHOLE, 0, 0), [("door", 0), ("line", 0), ("line", 1)])
        self.assertEqual(ways_at(SAMPLE, WHOLE, 0, 1), [("door", 0), ("line", 0), ("line", 5)])
        self.assertEqual(ways_at(SAMPLE, WHOLE, 0, 2), [("line", 1)])
        self.assertEqual(ways_at(SAMPLE, WHOLE, 0, 3), [("door", 2), ("line", 5)])

    def test_several_doors_of_the_group(self):
        self.assertEqual(ways_at(SAMPLE, WHOLE, 2, 3), [("door", 0), ("door", 1), ("line", 4)])

    def test_no_way_at_all(self):
        self.assertEqual(ways_at(SAMPLE, WHOLE, 0, 4), [])
        self.assertEqual(ways_at(SAMPLE, WHOLE, 7, 0), [])
        self.assertEqual(ways_at(LONE, WHOLE, 0, 0), [])

    def test_other_lines_where_something_is_fallen(self):
        self.assertEqual(ways_at(SAMPLE, ((0,), ()), 0, 1), [("door", 0), ("line", 2), ("line", 5)])
        self.assertEqual(ways_at(SAMPLE, ((), ((0, 0),)), 0, 1), [("door", 0), ("line", 0), ("line", 5)])
        self.assertEqual(ways_at(SAMPLE, ((), ((0, 0), (0, 1))), 0, 1), [("door", 0), ("line", 3), ("line", 5)])

    def test_lines_of_the_tree_alone(self):
        weaving = (((0,), (0,)), ((0, 1, 2, (0,), 1), (0, 1, 1, (0,), 1), (0, 1, 1, (0,), 1), (0, 1, 1, (1,), 1)))
        for house in (0, 1):
            self.assertEqual(ways_at(weaving, WHOLE, 0, house), [("door", 0), ("line", 1)])
            self.assertEqual(ways_at(weaving, WHOLE, 1, house), [("line", 3)])

    def test_made_ones(self):
        for weaving, falls, group in making.made_cases(200, seed=21):
            for house in range(len(weaving[0])):
                if house not in falls[0]:
                    told = ways_at(weaving, falls, group, house)
                    self.assertEqual(told, slowpost.slow_ways(weaving, falls, group, house))


class Take(unittest.TestCase):
    def knowing(self, *heard, room=9):
        table = Table(room, 40)
        for group, name, way in heard:
            table.hear(group, name, way)
        table.tick(1)
        return table

    def test_the_sender_is_heard_by_the_way(self):
        table = self.knowing((0, "b", WAYS[3]))
        take(table, (0, "a", "b"), WAYS[2], WAYS)
        self.assertEqual(table.entries(), [(0, "a", WAYS[2], 0), (0, "b", WAYS[3], 1)])
        take(table, (0, "a", None), WAYS[0], WAYS)
        self.assertEqual(table.way_of(0, "a"), WAYS[0])

    def test_to_where_the_other_is_known(self):
        for way in WAYS[1:]:
            self.assertEqual(take(self.knowing((0, "b", way)), (0, "a", "b"), WAYS[0], WAYS), [way])

    def test_nowhere_where_it_came_from_there(self):
        for way in WAYS:
            self.assertEqual(take(self.knowing((0, "b", way)), (0, "a", "b"), way, WAYS), [])

    def test_everywhere_else_where_it_is_not_known(self):
        for at in range(4):
            told = take(self.knowing((0, "c", WAYS[0])), (0, "a", "b"), WAYS[at], WAYS)
            self.assertEqual(told, WAYS[:at] + WAYS[at + 1:])

    def test_to_all(self):
        table = self.knowing((0, "a", WAYS[3]), (0, "b", WAYS[2]))
        self.assertEqual(take(table, (0, "a", None), WAYS[1], WAYS), [WAYS[0], WAYS[2], WAYS[3]])

    def test_the_other_is_known_in_that_group_alone(self):
        table = self.knowing((1, "b", WAYS[2]))
        self.assertEqual(take(table, (0, "a", "b"), WAYS[0], WAYS), WAYS[1:])
        self.assertEqual(take(table, (1, "a", "b"), WAYS[0], WAYS), [WAYS[2]])
        self.assertEqual(table.entries(), [(0, "a", WAYS[0], 0), (1, "a", WAYS[0], 0), (1, "b", WAYS[2], 1)])

    def test_a_way_that_is_none_of_the_ways_any_more(self):
        for way in (("line", 2), ("door", 1), ("door", 4)):
            table = self.knowing((0, "b", way))
            self.assertEqual(take(table, (0, "a", "b"), WAYS[0], WAYS), WAYS[1:])
            self.assertEqual(table.way_of(0, "b"), way)

    def test_a_sender_whose_hearing_puts_out_the_other(self):
        table = self.knowing((0, "b", WAYS[3]), room=1)
        self.assertEqual(take(table, (0, "a", "b"), WAYS[0], WAYS), WAYS[1:])
        self.assertEqual(table.entries(), [(0, "a", WAYS[0], 0)])
        table = self.knowing((0, "b", WAYS[3]), (0, "c", WAYS[3]), room=2)
        self.assertEqual(take(table, (0, "a", "c"), WAYS[0], WAYS), [WAYS[3]])
        self.assertIsNone(table.way_of(0, "b"))

    def test_one_way_alone(self):
        self.assertEqual(take(self.knowing(), (0, "a", "b"), WAYS[0], WAYS[:1]), [])
        self.assertEqual(take(self.knowing(), (0, "a", None), WAYS[0], WAYS[:1]), [])

    def test_in_the_order_of_the_ways(self):
        self.assertEqual(take(self.knowing(), (0, "a", "b"), WAYS[1], WAYS[::-1]), [WAYS[3], WAYS[2], WAYS[0]])


class StrandOf(unittest.TestCase):
    def test_the_sum_of_all_letters(self):
        for at, letter in enumerate("abcdefghijklmnopqrstuvwxyz"):
            self.assertEqual(strand_of(letter, "a", list(range(100))), at)
            self.assertEqual(strand_of("a", letter, list(range(100))), at)
            self.assertEqual(strand_of(letter, None, list(range(100))), at)
        self.assertEqual(strand_of("bc", "de", list(range(100))), 1 + 2 + 3 + 4)
        self.assertEqual(strand_of("zzzzzzzz", "zzzzzzzz", list(range(401))), 400)

    def test_the_number_at_that_place(self):
        self.assertEqual([strand_of("a", letter, [0, 2, 3]) for letter in "abcdef"], [0, 2, 3, 0, 2, 3])
        self.assertEqual([strand_of(letter, None, [1, 3]) for letter in "abc"], [1, 3, 1])

    def test_one_number_alone(self):
        self.assertEqual({strand_of("abc", letter, [3]) for letter in "abcdxyz"}, {3})

    def test_both_ways_alike(self):
        self.assertEqual(strand_of("house", "line", [0, 1, 2, 3]), strand_of("line", "house", [0, 1, 2, 3]))

    def test_made_ones(self):
        dice = making.Dice(4)
        for case in range(200):
            names = ["".join(chr(97 + dice.below(26)) for sign in range(1 + dice.below(8))) for name in range(2)]
            numbers = [number for number in range(4) if dice.below(2)] or [dice.below(4)]
            to = names[1] if dice.below(4) else None
            self.assertEqual(strand_of(names[0], to, numbers), slowpost.slow_strand(names[0], to, numbers))


if __name__ == "__main__":
    unittest.main()
