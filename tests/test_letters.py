"""[13]: what can be told of a letter that was sent, and where letters can come to."""

import unittest

from namelines.letters import reached, shows_sent
from namelines.posts import Post
from tests import making
from tests.making import JUNK, LONE, SAMPLE, WHOLE

# Group 0 of SAMPLE: the tree's lines are 0 (0 to 1), 1 (0 to 2) and 5 (1 to 3), its places (0, 0), (1, 0), (3, 2).
HOME = (0, 0)
RIGHT = ([(1, 0), (3, 2)], [(0, 1, 0), (1, 0, 0), (5, 2, 1)])
# Houses, doors, lines and strands of which each has just 0 and 1 for numbers, so that True and False could pass for them.
SMALL = (((0, 0), (0, 0)), ((0, 1, 1, (0,), 2), (0, 1, 1, (0,), 2)))


def slow_shows_sent(weaving, falls, group, place, thing):
    """The words of [13], each tuple looked for by how it is written among all that can be."""
    if type(thing) is not tuple or [type(part) for part in thing] != [list, list]:
        return False
    places = [(house, door) for house, doors in enumerate(weaving[0]) for door in range(len(doors))
              if doors[door] == group and (house, door) != place]
    lines = {part[2] for part in making.slow_tree(weaving, falls, group) if part} - {-1}
    left = {repr((at, number, house)): (at, house) for at, number in making.all_strands(weaving)
            for house in weaving[1][at][:2] if at in lines and (at, number) not in falls[1]}
    got, used = {place[0]}, set()
    for step in thing[1]:
        at, house = left.get(repr(step), (None, None))
        if at is None or house not in got or at in used:
            return False
        used.add(at)
        got |= set(weaving[1][at][:2])
    written = [repr(part) for part in places if part[0] in got]
    found = [repr(part) for part in thing[0]]
    return all(part in written for part in found) and thing[0] == sorted(set(thing[0]))


class ShowsSent(unittest.TestCase):
    def check_all(self, wanted, things, weaving=SAMPLE, falls=WHOLE, group=0, place=HOME):
        for thing in things:
            with self.subTest(thing=repr(thing)):
                self.assertIs(shows_sent(weaving, falls, group, place, thing), wanted)

    def test_right_ones(self):
        self.check_all(True, [
            RIGHT,
            ([], []),
            ([], RIGHT[1]),
            ([(3, 2)], RIGHT[1]),
            ([(1, 0)], [(0, 0, 0)]),
            ([], [(1, 0, 0)]),
            ([(1, 0), (3, 2)], [(1, 0, 0), (0, 0, 0), (5, 0, 1)]),
            ([(1, 0), (3, 2)], [(0, 0, 0), (5, 1, 1), (1, 0, 0)]),
        ])

    def test_from_the_middle_and_the_end_of_the_tree(self):
        self.check_all(True, [([(0, 0), (3, 2)], [(5, 0, 1), (0, 0, 1), (1, 0, 0)])], place=(1, 0))
        self.check_all(True, [([(0, 0), (1, 0)], [(5, 0, 3), (0, 0, 1), (1, 0, 0)])], place=(3, 2))
        self.check_all(False, [([], [(5, 0, 1)]), ([], [(5, 0, 3), (0, 0, 0)])], place=(3, 2))

    def test_other_doors_of_the_same_house(self):
        self.check_all(True, [([(3, 1)], []), ([], [])], group=2, place=(3, 0))
        self.check_all(False, [([(3, 0)], []), ([(3, 0), (3, 1)], []), ([(3, 2)], [])], group=2, place=(3, 0))

    def test_the_pair(self):
        came, gone = RIGHT
        self.check_all(False, [
            (), (came,), (came, gone, []), [came, gone], (gone, came), (tuple(came), gone), (came, tuple(gone)),
            (None, gone), (came, None), (came, 0), ("", []), ([], ""), (0, 0), None, True, 0, "", [],
        ])

    def test_came_is_rising(self):
        gone = RIGHT[1]
        self.check_all(False, [([(3, 2), (1, 0)], gone), ([(1, 0), (1, 0)], gone), ([(1, 0), (3, 2), (3, 2)], gone)])

    def test_came_is_of_places_of_the_group(self):
        gone = RIGHT[1]
        self.check_all(False, [
            ([(0, 1)], gone), ([(3, 0)], gone), ([(3, 1), (3, 2)], gone), ([(1, 1)], gone), ([(2, 0)], gone),
            ([(3, 3)], gone), ([(5, 0)], gone), ([(-1, 0)], gone), ([(1, -1)], gone), ([(3, -1)], gone),
        ])

    def test_came_is_of_pairs_of_numbers(self):
        gone = RIGHT[1]
        self.check_all(False, [
            ([[1, 0]], gone), ([(1,)], gone), ([(1, 0, 0)], gone), ([1], gone), ([None], gone), (["10"], gone),
            ([(True, 0)], gone), ([(1, False)], gone), ([("1", 0)], gone), ([(1, None)], gone), ([()], gone),
            ([(1, 0), None], gone), ([(1, 0), [3, 2]], gone), ([((1, 0),)], gone), ([(1, [0])], gone),
        ])

    def test_came_is_not_the_place_itself(self):
        self.check_all(False, [([HOME], []), ([HOME, (1, 0), (3, 2)], RIGHT[1])])

    def test_came_is_of_houses_that_are_reached(self):
        self.check_all(False, [
            ([(1, 0)], []), ([(3, 2)], []), ([(1, 0), (3, 2)], [(0, 0, 0), (1, 0, 0)]), ([(1, 0)], [(1, 0, 0)]),
        ])
        self.check_all(False, [([(4, 0)], [(0, 0, 0)])], group=1, place=(0, 1))

    def test_lines_are_of_the_tree(self):
        self.check_all(False, [([], [(3, 0, 0)]), ([], [(1, 0, 0), (2, 0, 2)]), ([], [(1, 0, 0), (4, 0, 2)]),
                               ([], [(6, 0, 0)]), ([], [(-1, 0, 0)]), ([], [(-6, 0, 0)])])
        self.check_all(False, [([], [(1, 0, 0)])], group=1, place=(0, 1))

    def test_no_line_twice(self):
        self.check_all(False, [
            ([], [(0, 0, 0), (0, 1, 0)]), ([], [(0, 0, 0), (0, 0, 0)]), ([], [(0, 0, 0), (0, 1, 1)]),
            ([], [(0, 0, 0), (1, 0, 0), (0, 0, 1)]), (RIGHT[0], RIGHT[1] + [(5, 2, 3)]),
        ])

    def test_strands_are_whole(self):
        self.check_all(False, [([], [(0, 2, 0)]), ([], [(0, -1, 0)]), ([], [(1, 1, 0)]), ([], [(0, 4, 0)])])
        falls = ((), ((0, 0), (5, 1), (5, 2)))
        self.check_all(True, [([(1, 0), (3, 2)], [(0, 1, 0), (5, 0, 1)])], falls=falls)
        self.check_all(False, [([], [(0, 0, 0)]), ([], [(0, 1, 0), (5, 1, 1)]), ([], [(0, 1, 0), (5, 2, 1)])], falls=falls)
        gone = ((), ((0, 0), (0, 1)))
        self.check_all(False, [([], [(0, 0, 0)]), ([], [(0, 1, 0)])], falls=gone)
        self.check_all(True, [([(1, 0)], [(3, 0, 0)])], falls=gone)

    def test_houses_are_ends_of_the_line_and_reached_ahead(self):
        self.check_all(False, [
            ([], [(0, 0, 1)]), ([], [(1, 0, 2)]), ([], [(5, 0, 1)]), ([], [(5, 0, 0)]), ([], [(0, 0, 2)]),
            ([], [(5, 0, 1), (0, 0, 0)]), ([], [(0, 0, 0), (5, 0, 3)]), ([], [(0, 0, 0), (1, 0, 1)]),
            ([], [(0, 0, 0), (5, 0, 0)]), ([], [(0, 0, 9)]), ([], [(0, 0, -1)]),
        ])

    def test_gone_is_of_tuples_of_three_numbers(self):
        self.check_all(False, [
            ([], [[0, 1, 0]]), ([], [(0, 1)]), ([], [(0, 1, 0, 0)]), ([], [()]), ([], [None]), ([], [0]), ([], ["010"]),
            ([], [(False, 1, 0)]), ([], [(0, True, 0)]), ([], [(0, 1, False)]), ([], [(0, 1, None)]),
            ([], [("0", 1, 0)]), ([], [(0, [1], 0)]), ([], [((0, 1, 0),)]), ([], [(0, 1, 0), (5, 0, True)]),
            ([], [(0, 1, 0), None]), ([], [(True, 0, 0)]), ([], [(0, 0, (0,))]),
        ])

    def test_fallen_houses(self):
        falls = ((0,), ())
        self.check_all(True, [([(3, 2)], [(5, 0, 1), (2, 0, 1)])], falls=falls, place=(1, 0))
        self.check_all(False, [([], [(0, 0, 1)]), ([(0, 0)], [])], falls=falls, place=(1, 0))

    def test_near_misses(self):
        cases = [(SAMPLE, WHOLE, HOME, RIGHT),
                 (SAMPLE, ((), ((0, 0), (5, 1))), (3, 2), ([(0, 0), (1, 0)], [(5, 0, 3), (0, 1, 1), (1, 0, 0)])),
                 (SMALL, WHOLE, (0, 1), ([(0, 0), (1, 0), (1, 1)], [(0, 1, 0)])),
                 (SMALL, WHOLE, (1, 0), ([(0, 0), (0, 1), (1, 1)], [(0, 0, 1)]))]
        for weaving, falls, place, thing in cases:
            self.assertIs(shows_sent(weaving, falls, 0, place, thing), True)
            for other in making.unlike(thing):
                wanted = slow_shows_sent(weaving, falls, 0, place, other)
                self.assertIs(shows_sent(weaving, falls, 0, place, other), wanted, other)

    def test_anything_at_all(self):
        things = JUNK + [(part, []) for part in JUNK] + [([], part) for part in JUNK]
        things += [([part], []) for part in JUNK] + [([], [part]) for part in JUNK]
        things += [(one, other) for one in JUNK for other in JUNK]
        things += [([(part, 0)], []) for part in JUNK] + [([], [(0, part, 0)]) for part in JUNK]
        things += [([], [(0, 0, part)]) for part in JUNK] + [([], [(part, 0, 0)]) for part in JUNK]
        for thing in things:
            wanted = slow_shows_sent(SMALL, WHOLE, 0, (1, 1), thing)
            self.assertIs(shows_sent(SMALL, WHOLE, 0, (1, 1), thing), wanted, thing)

    def test_each_told_by_send(self):
        dice = making.Dice(31)
        tried = 0
        for weaving, falls, group in making.made_cases(150, seed=32):
            homes = [(house, door) for house, doors in enumerate(weaving[0]) for door in range(len(doors))]
            homes = [place for place in homes if place[0] not in falls[0]]
            if homes:
                post = Post(weaving, 3, 5)
                for name in ("a", "b", "c", "dd"):
                    post.lay(name, *homes[dice.below(len(homes))])
                for house in falls[0]:
                    post.break_house(house)
                for strand in falls[1]:
                    post.fall(*strand)
                for sender, to in (("a", "b"), ("b", "a"), ("c", "dd"), ("b", "c"), ("dd", None), ("a", "nobody")):
                    place = post.place_of(sender)
                    told = post.send(sender, to)
                    group = weaving[0][place[0]][place[1]]
                    self.assertIs(shows_sent(weaving, falls, group, place, told), True)
                    self.assertIs(slow_shows_sent(weaving, falls, group, place, told), True)
                    tried += len(told[1]) > 1
        self.assertGreater(tried, 50)


class Reached(unittest.TestCase):
    def test_all_places_of_the_group_in_the_piece(self):
        for house in range(4):
            self.assertEqual(reached(SAMPLE, WHOLE, 0, house), [(0, 0), (1, 0), (3, 2)])
        self.assertEqual(reached(SAMPLE, WHOLE, 1, 0), [(0, 1)])
        self.assertEqual(reached(SAMPLE, WHOLE, 1, 4), [(4, 0)])
        self.assertEqual(reached(SAMPLE, WHOLE, 2, 2), [(3, 0), (3, 1)])

    def test_none(self):
        self.assertEqual(reached(SAMPLE, WHOLE, 0, 4), [])
        self.assertEqual(reached(SAMPLE, WHOLE, 7, 0), [])
        self.assertEqual(reached(LONE, WHOLE, 0, 0), [])

    def test_where_something_is_fallen(self):
        self.assertEqual(reached(SAMPLE, ((0,), ()), 0, 2), [(1, 0), (3, 2)])
        self.assertEqual(reached(SAMPLE, ((1, 2), ()), 0, 3), [(3, 2)])
        self.assertEqual(reached(SAMPLE, ((1, 2), ()), 0, 0), [(0, 0)])

    def test_made_ones(self):
        for weaving, falls, group in making.made_cases(200, seed=33):
            for piece in making.slow_pieces(weaving, falls, group):
                wanted = [(house, door) for house in piece for door in range(len(weaving[0][house]))
                          if weaving[0][house][door] == group]
                for house in piece:
                    self.assertEqual(reached(weaving, falls, group, house), wanted)


if __name__ == "__main__":
    unittest.main()
