"""[7]: tables of a bounded room that forget."""

import unittest

from namelines.tables import Table
from tests.making import Dice
from tests.slowpost import SlowTable

DOOR, OTHER_DOOR, LINE, OTHER_LINE = ("door", 0), ("door", 1), ("line", 0), ("line", 1)


class Beginning(unittest.TestCase):
    def test_at_tick_nought_with_no_entry(self):
        table = Table(3, 4)
        self.assertEqual(table.now(), 0)
        self.assertEqual(table.entries(), [])
        self.assertIsNone(table.way_of(0, "a"))


class Hear(unittest.TestCase):
    def test_an_entry_has_the_way_and_the_tick_heard_last(self):
        table = Table(3, 40)
        self.assertIsNone(table.hear(0, "a", DOOR))
        self.assertEqual(table.entries(), [(0, "a", DOOR, 0)])
        table.tick(2)
        self.assertEqual(table.entries(), [(0, "a", DOOR, 2)])
        self.assertIsNone(table.hear(0, "a", LINE))
        self.assertEqual(table.entries(), [(0, "a", LINE, 0)])
        self.assertEqual(table.way_of(0, "a"), LINE)

    def test_heard_again_by_the_same_way_is_heard_now(self):
        table = Table(3, 5)
        table.hear(0, "a", DOOR)
        table.tick(4)
        table.hear(0, "a", DOOR)
        self.assertEqual(table.tick(4), [])
        self.assertEqual(table.entries(), [(0, "a", DOOR, 4)])
        self.assertEqual(table.tick(1), [(0, "a")])

    def test_the_same_name_in_several_groups(self):
        table = Table(3, 5)
        for group, way in ((7, DOOR), (0, LINE), (3, OTHER_DOOR)):
            self.assertIsNone(table.hear(group, "a", way))
        self.assertEqual(table.entries(), [(0, "a", LINE, 0), (3, "a", OTHER_DOOR, 0), (7, "a", DOOR, 0)])
        self.assertEqual([table.way_of(group, "a") for group in (0, 3, 7, 1)], [LINE, OTHER_DOOR, DOOR, None])
        self.assertEqual(table.hear(1, "a", DOOR), (0, "a"))
        self.assertIsNone(table.way_of(0, "a"))
        self.assertEqual(table.way_of(7, "a"), DOOR)

    def test_any_number_of_a_way(self):
        table = Table(3, 5)
        table.hear(0, "a", ("door", 99))
        table.hear(0, "b", ("line", 1000))
        self.assertEqual(table.entries(), [(0, "a", ("door", 99), 0), (0, "b", ("line", 1000), 0)])


class PutOut(unittest.TestCase):
    def test_the_one_heard_longest_ago(self):
        table = Table(2, 40)
        table.hear(0, "b", DOOR)
        table.tick(1)
        table.hear(0, "a", DOOR)
        table.tick(1)
        self.assertEqual(table.hear(0, "c", DOOR), (0, "b"))
        self.assertEqual(table.entries(), [(0, "a", DOOR, 1), (0, "c", DOOR, 0)])

    def test_hearing_again_counts_not_hearing_first(self):
        table = Table(2, 40)
        table.hear(0, "a", DOOR)
        table.tick(1)
        table.hear(0, "b", DOOR)
        table.tick(1)
        table.hear(0, "a", DOOR)
        self.assertEqual(table.hear(0, "c", DOOR), (0, "b"))

    def test_of_several_heard_at_one_tick_the_least_pair(self):
        table = Table(4, 40)
        for group, name in ((1, "a"), (0, "c"), (2, "a"), (0, "b")):
            self.assertIsNone(table.hear(group, name, LINE))
        self.assertEqual(table.hear(0, "a", LINE), (0, "b"))
        # What was heard only now is as old as the others, so it goes by its pair as well.
        self.assertEqual(table.hear(5, "a", LINE), (0, "a"))
        self.assertEqual(table.hear(5, "b", LINE), (0, "c"))
        self.assertEqual(table.hear(5, "c", LINE), (1, "a"))

    def test_pairs_go_by_group_ahead_of_name_and_by_name_as_texts(self):
        table = Table(2, 40)
        table.hear(0, "b", DOOR)
        table.hear(0, "ab", DOOR)
        self.assertEqual(table.hear(1, "a", DOOR), (0, "ab"))
        self.assertEqual(table.hear(1, "b", DOOR), (0, "b"))

    def test_a_pair_that_is_there_already_puts_out_none(self):
        table = Table(2, 40)
        table.hear(0, "a", DOOR)
        table.hear(0, "b", DOOR)
        table.tick(1)
        self.assertIsNone(table.hear(0, "b", LINE))
        self.assertIsNone(table.hear(0, "a", LINE))
        self.assertEqual(table.entries(), [(0, "a", LINE, 0), (0, "b", LINE, 0)])

    def test_none_where_there_is_room(self):
        table = Table(40, 500)
        for at in range(40):
            self.assertIsNone(table.hear(at % 8, "abcdefgh"[:1 + at // 8], DOOR))
        self.assertEqual(table.hear(0, "z", DOOR), (0, "a"))
        self.assertEqual(len(table.entries()), 40)

    def test_room_is_free_again_behind_forgetting(self):
        table = Table(2, 2)
        table.hear(0, "a", DOOR)
        table.tick(1)
        table.hear(0, "b", LINE)
        table.tick(1)
        self.assertIsNone(table.hear(0, "c", DOOR))
        table.forget(LINE)
        self.assertIsNone(table.hear(0, "d", DOOR))
        self.assertEqual(table.hear(0, "e", DOOR), (0, "c"))

    def test_room_one(self):
        table = Table(1, 5)
        self.assertIsNone(table.hear(3, "b", DOOR))
        self.assertIsNone(table.hear(3, "b", LINE))
        self.assertEqual(table.hear(2, "b", DOOR), (3, "b"))
        self.assertEqual(table.hear(3, "a", DOOR), (2, "b"))
        self.assertEqual(table.entries(), [(3, "a", DOOR, 0)])


class BeyondTheBounds(unittest.TestCase):
    """What comes of it isn't promised, but it is no error."""

    def test_no_error(self):
        for room, age in ((0, 5), (1, 0), (0, 0), (45, 600)):
            table = Table(room, age)
            for name in ("a", "b", "abcdefghij", "a"):
                table.hear(9, name, DOOR)
            table.tick(0)
            table.tick(550)
            table.hear(0, "a", LINE)
            table.entries()
            table.forget(DOOR)
            table.drop_lines(8)
            self.assertEqual(table.twin().now(), 550)


class Forget(unittest.TestCase):
    def filled(self):
        table = Table(9, 40)
        for group, name, way in ((1, "b", LINE), (0, "z", LINE), (0, "a", OTHER_LINE), (0, "b", DOOR),
                                 (1, "a", LINE), (2, "a", OTHER_DOOR), (1, "c", DOOR)):
            table.hear(group, name, way)
        return table

    def test_the_entries_of_a_way_in_all_groups(self):
        table = self.filled()
        self.assertEqual(table.forget(LINE), [(0, "z"), (1, "a"), (1, "b")])
        self.assertEqual([entry[:2] for entry in table.entries()], [(0, "a"), (0, "b"), (1, "c"), (2, "a")])
        self.assertEqual(table.forget(LINE), [])

    def test_a_door_is_no_line_of_that_number(self):
        table = self.filled()
        self.assertEqual(table.forget(DOOR), [(0, "b"), (1, "c")])
        self.assertEqual(table.way_of(0, "z"), LINE)

    def test_a_way_that_no_entry_has(self):
        table = self.filled()
        self.assertEqual(table.forget(("door", 7)), [])
        self.assertEqual(len(table.entries()), 7)

    def test_the_entries_of_all_lines_in_a_group(self):
        table = self.filled()
        self.assertEqual(table.drop_lines(0), [(0, "a"), (0, "z")])
        self.assertEqual([entry[:2] for entry in table.entries()], [(0, "b"), (1, "a"), (1, "b"), (1, "c"), (2, "a")])
        self.assertEqual(table.drop_lines(1), [(1, "a"), (1, "b")])
        self.assertEqual(table.drop_lines(2), [])
        self.assertEqual(table.drop_lines(7), [])
        self.assertEqual([entry[:2] for entry in table.entries()], [(0, "b"), (1, "c"), (2, "a")])


class Tick(unittest.TestCase):
    def test_entries_heard_age_ticks_ago_or_more(self):
        table = Table(5, 3)
        table.hear(1, "b", DOOR)
        table.hear(0, "c", DOOR)
        table.tick(1)
        table.hear(0, "a", DOOR)
        self.assertEqual(table.tick(1), [])
        self.assertEqual(table.tick(1), [(0, "c"), (1, "b")])
        self.assertEqual(table.entries(), [(0, "a", DOOR, 2)])
        self.assertEqual(table.tick(10), [(0, "a")])
        self.assertEqual(table.now(), 13)

    def test_nought_ticks(self):
        table = Table(5, 1)
        table.hear(0, "a", DOOR)
        self.assertEqual(table.tick(0), [])
        self.assertEqual(table.entries(), [(0, "a", DOOR, 0)])
        self.assertEqual(table.now(), 0)

    def test_age_one(self):
        table = Table(5, 1)
        table.hear(0, "a", DOOR)
        self.assertEqual(table.way_of(0, "a"), DOOR)
        self.assertEqual(table.tick(1), [(0, "a")])
        self.assertIsNone(table.way_of(0, "a"))
        table.hear(0, "a", DOOR)
        self.assertEqual(table.tick(1), [(0, "a")])

    def test_at_once_and_one_by_one(self):
        for age in (1, 499, 500):
            at_once, one_by_one = Table(5, age), Table(5, age)
            for table in (at_once, one_by_one):
                table.hear(0, "b", DOOR)
                table.hear(0, "a", LINE)
            told = [pair for step in range(500) for pair in one_by_one.tick(1)]
            self.assertEqual(told, [(0, "a"), (0, "b")])
            self.assertEqual(at_once.tick(500), told)
            self.assertEqual((at_once.now(), one_by_one.now()), (500, 500))
            self.assertEqual((at_once.entries(), one_by_one.entries()), ([], []))

    def test_the_oldest_age(self):
        table = Table(5, 500)
        table.hear(0, "a", DOOR)
        self.assertEqual(table.tick(499), [])
        self.assertEqual(table.entries(), [(0, "a", DOOR, 499)])
        self.assertEqual(table.tick(1), [(0, "a")])


class Twin(unittest.TestCase):
    def made(self):
        table = Table(2, 4)
        table.tick(5)
        table.hear(0, "a", DOOR)
        table.tick(1)
        table.hear(1, "b", LINE)
        return table

    def test_stands_likewise(self):
        table = self.made()
        other = table.twin()
        self.assertIs(type(other), Table)
        self.assertEqual((other.entries(), other.now()), (table.entries(), 6))
        self.assertEqual(other.tick(3), [(0, "a")])
        self.assertEqual(table.tick(3), [(0, "a")])

    def test_has_the_same_room(self):
        self.assertEqual(self.made().twin().hear(0, "c", DOOR), (0, "a"))

    def test_both_go_their_own_ways(self):
        for first, second in ((0, 1), (1, 0)):
            table = self.made()
            both = (table, table.twin())
            kept = (both[second].entries(), both[second].now())
            both[first].hear(0, "a", OTHER_LINE)
            both[first].hear(0, "c", OTHER_LINE)
            both[first].drop_lines(0)
            both[first].forget(LINE)
            both[first].tick(9)
            self.assertEqual((both[second].entries(), both[second].now()), kept)
            self.assertEqual((both[first].entries(), both[first].now()), ([], 15))

    def test_a_twins_twin(self):
        table = self.made()
        self.assertEqual(table.twin().twin().entries(), table.entries())


class MadeOnes(unittest.TestCase):
    def test_against_a_second_telling(self):
        dice = Dice(11)
        ways = [DOOR, OTHER_DOOR, LINE, OTHER_LINE]
        for case in range(60):
            room, age = 1 + dice.below(6), 1 + dice.below(9)
            table, slow = Table(room, age), SlowTable(room, age)
            for deed in range(60):
                group, name, way = dice.below(3), "abcdxy"[dice.below(6)], ways[dice.below(4)]
                kind = dice.below(12)
                if kind < 7:
                    asked = [each.hear(group, name, way) for each in (table, slow)]
                elif kind < 10:
                    many = (0, 1, 1, 2, 8)[dice.below(5)]
                    asked = [each.tick(many) for each in (table, slow)]
                elif kind < 11:
                    asked = [each.forget(way) for each in (table, slow)]
                else:
                    asked = [each.drop_lines(group) for each in (table, slow)]
                self.assertEqual(asked[0], asked[1])
                self.assertEqual(table.way_of(group, name), slow.way_of(group, name))
                self.assertEqual(table.entries(), slow.entries())
                self.assertEqual(table.now(), slow.now())
                self.assertLessEqual(len(table.entries()), room)
                table = table.twin() if dice.below(5) == 0 else table


if __name__ == "__main__":
    unittest.main()
