"""[9] to [12]: a post of all houses."""

import unittest

from namelines.errors import Down, NoHouse, NoLine, NoName, NoPlace, NotSo
from namelines.posts import Post
from namelines.telling import told_rows
from tests import making
from tests.making import LONE, SAMPLE, WHOLE
from tests.slowpost import NAMES, SlowPost, outcome, state, thrown_deed

# Group 0 of SAMPLE: the tree's lines are 0 (0 to 1), 1 (0 to 2) and 5 (1 to 3), its places (0, 0), (1, 0), (3, 2).


def sample_post(room=9, age=40):
    post = Post(SAMPLE, room, age)
    for name, house, door in (("a", 0, 0), ("b", 1, 0), ("c", 3, 2), ("d", 0, 1), ("e", 3, 0), ("f", 3, 1)):
        post.lay(name, house, door)
    return post


def chain(many, doors=(0,), strands=1):
    """Houses in a row, each joined with the next one."""
    return ((doors,) * many, tuple((house, house + 1, 1, (0,), strands) for house in range(many - 1)))


class PostTest(unittest.TestCase):
    def check_refused(self, post, many, refusal, name, *arguments):
        """Refused with that very class, and nothing is changed."""
        names = NAMES + ("d", "e", "f", "x")
        ahead = state(post, many, names)
        for again in range(2):
            with self.assertRaises(refusal) as caught:
                getattr(post, name)(*arguments)
            self.assertIs(type(caught.exception), refusal)
            self.assertEqual(state(post, many, names), ahead)


class Laying(PostTest):
    def test_at_first(self):
        post = Post(SAMPLE, 3, 5)
        self.assertEqual(post.now(), 0)
        self.assertEqual(post.falls(), WHOLE)
        self.assertEqual([post.entries(house) for house in range(5)], [[]] * 5)
        self.assertEqual(post.wrong(), [])
        self.assertIsNone(post.place_of("a"))

    def test_a_name_lies_where_it_was_laid_last(self):
        post = Post(SAMPLE, 3, 5)
        self.assertIsNone(post.lay("a", 3, 2))
        self.assertEqual(post.place_of("a"), (3, 2))
        self.assertIsNone(post.lay("a", 0, 1))
        self.assertEqual(post.place_of("a"), (0, 1))
        self.assertIsNone(post.lay("a", 0, 1))
        self.assertEqual(post.place_of("a"), (0, 1))

    def test_several_at_one_door(self):
        post = Post(SAMPLE, 3, 5)
        post.lay("a", 1, 0)
        post.lay("b", 1, 0)
        self.assertEqual((post.place_of("a"), post.place_of("b")), ((1, 0), (1, 0)))
        post.lift("a")
        self.assertEqual((post.place_of("a"), post.place_of("b")), (None, (1, 0)))

    def test_lifting(self):
        post = sample_post()
        self.assertIsNone(post.lift("a"))
        self.assertIsNone(post.place_of("a"))
        self.assertEqual(post.place_of("b"), (1, 0))
        post.lay("a", 3, 0)
        self.assertEqual(post.place_of("a"), (3, 0))

    def test_at_a_fallen_house(self):
        post = sample_post()
        post.break_house(1)
        self.assertEqual(post.place_of("b"), (1, 0))
        post.lay("x", 1, 0)
        self.assertEqual(post.place_of("x"), (1, 0))
        post.lift("b")
        self.assertIsNone(post.place_of("b"))

    def test_laying_and_lifting_are_heard_by_no_house(self):
        post = sample_post()
        post.send("a", None)
        told = [post.entries(house) for house in range(5)]
        post.lay("a", 1, 0)
        post.lay("x", 1, 0)
        post.lift("b")
        self.assertEqual([post.entries(house) for house in range(5)], told)

    def test_no_place(self):
        post = sample_post()
        for house, door in ((5, 0), (-1, 0), (-5, 0), (0, 2), (0, -1), (2, 0), (3, 3), (99, 99), (1, 1), (5, -1)):
            self.check_refused(post, 5, NoPlace, "lay", "a", house, door)
            self.check_refused(post, 5, NoPlace, "lay", "x", house, door)

    def test_no_name_to_lift(self):
        post = sample_post()
        self.check_refused(post, 5, NoName, "lift", "x")
        post.lift("a")
        self.check_refused(post, 5, NoName, "lift", "a")


class Sending(PostTest):
    def test_to_one_that_no_house_knows(self):
        post = sample_post()
        self.assertEqual(post.send("a", "b"), ([(1, 0), (3, 2)], [(0, 1, 0), (1, 0, 0), (5, 1, 1)]))
        self.assertEqual(post.entries(0), [(0, "a", ("door", 0), 0)])
        self.assertEqual(post.entries(1), [(0, "a", ("line", 0), 0)])
        self.assertEqual(post.entries(2), [(0, "a", ("line", 1), 0)])
        self.assertEqual(post.entries(3), [(0, "a", ("line", 5), 0)])
        self.assertEqual(post.entries(4), [])

    def test_to_one_that_is_known(self):
        post = sample_post()
        post.send("a", "b")
        self.assertEqual(post.send("b", "a"), ([(0, 0)], [(0, 1, 1)]))
        self.assertEqual(post.send("c", "a"), ([(0, 0)], [(5, 2, 3), (0, 0, 1)]))
        self.assertEqual(post.send("a", "c"), ([(3, 2)], [(0, 0, 0), (5, 2, 1)]))
        self.assertEqual(post.entries(2), [(0, "a", ("line", 1), 0)])

    def test_known_on_a_part_of_the_way(self):
        post = sample_post()
        post.send("b", "x")
        post.send("a", "b")
        # House 1 knows nothing of c yet, though 0 and 2 have heard of b.
        self.assertEqual(post.send("b", "c"), ([(0, 0), (3, 2)], [(0, 1, 1), (5, 0, 1), (1, 0, 0)]))

    def test_to_all(self):
        post = sample_post()
        for name in ("a", "b", "c"):
            post.send(name, None)
        self.assertEqual(post.send("b", None), ([(0, 0), (3, 2)], [(0, 1, 1), (5, 1, 1), (1, 0, 0)]))

    def test_to_one_that_lies_nowhere(self):
        post = sample_post()
        self.assertEqual(post.send("a", "x"), ([(1, 0), (3, 2)], [(0, 1, 0), (1, 0, 0), (5, 2, 1)]))
        self.assertEqual(post.place_of("x"), None)

    def test_to_one_at_the_senders_own_door(self):
        post = sample_post()
        post.lay("x", 0, 0)
        # Not known yet, so it goes everywhere else; then the house knows that it lies where it came from.
        self.assertEqual(post.send("a", "x")[0], [(1, 0), (3, 2)])
        self.assertEqual(post.send("x", "a"), ([], []))
        self.assertEqual(post.send("a", "x"), ([], []))
        self.assertEqual(post.entries(0), [(0, "a", ("door", 0), 0), (0, "x", ("door", 0), 0)])
        self.assertEqual(post.entries(1), [(0, "a", ("line", 0), 0)])

    def test_to_another_door_of_the_house(self):
        post = sample_post()
        self.assertEqual(post.send("e", "f"), ([(3, 1)], [(4, 1, 3)]))
        self.assertEqual(post.send("f", "e"), ([(3, 0)], []))

    def test_to_one_at_a_fallen_house(self):
        post = sample_post()
        post.send("b", None)
        post.break_house(1)
        self.assertEqual(post.send("a", "b"), ([(3, 2)], [(1, 0, 0), (4, 1, 2)]))
        self.assertEqual(post.entries(1), [])

    def test_to_one_that_lies_in_another_group(self):
        post = sample_post()
        post.send("d", None)
        self.assertEqual(post.entries(0), [(1, "d", ("door", 1), 0)])
        self.assertEqual(post.send("a", "d"), ([(1, 0), (3, 2)], [(0, 1, 0), (1, 0, 0), (5, 0, 1)]))

    def test_the_same_name_in_several_groups(self):
        post = sample_post()
        post.send("a", None)
        post.lay("a", 0, 1)
        self.assertEqual(post.send("a", None), ([], [(0, 0, 0)]))
        self.assertEqual(post.entries(0), [(0, "a", ("door", 0), 0), (1, "a", ("door", 1), 0)])
        self.assertEqual(post.entries(1), [(0, "a", ("line", 0), 0), (1, "a", ("line", 0), 0)])

    def test_a_house_hands_it_on_by_all_its_ways_first(self):
        lines = tuple((one, other, 1, (0,), 1) for one, other in ((0, 1), (0, 2), (1, 3), (2, 4), (1, 5)))
        post = Post((((0,),) * 6, lines), 9, 9)
        post.lay("a", 0, 0)
        post.lay("b", 5, 0)
        self.assertEqual(post.send("a", None)[1], [(0, 0, 0), (1, 0, 0), (2, 0, 1), (4, 0, 1), (3, 0, 2)])
        self.assertEqual(post.send("b", None)[1], [(4, 0, 5), (0, 0, 1), (2, 0, 1), (1, 0, 0), (3, 0, 2)])

    def test_came_rises_whatever_the_order_of_coming(self):
        lines = ((0, 3, 1, (0,), 1), (1, 3, 1, (0,), 1), (0, 2, 5, (0,), 1))
        post = Post((((0, 1, 0), (0,), (0,), (0, 0)), lines), 9, 9)
        post.lay("a", 3, 1)
        self.assertEqual(post.send("a", None), ([(0, 0), (0, 2), (1, 0), (2, 0), (3, 0)], [(0, 0, 3), (1, 0, 3), (2, 0, 0)]))

    def test_some_strands_fallen(self):
        post = Post(chain(2, strands=4), 9, 9)
        post.lay("a", 0, 0)
        post.lay("b", 1, 0)
        self.assertEqual([post.send("a", letter)[1][0][1] for letter in "bcdef"], [1, 2, 3, 0, 1])
        self.assertEqual(post.fall(0, 1), [])
        self.assertEqual([post.send("a", letter)[1][0][1] for letter in "bcdef"], [2, 3, 0, 2, 3])
        self.assertEqual(post.fall(0, 0), [])
        self.assertEqual([post.send("a", letter)[1][0][1] for letter in "bcdef"], [3, 2, 3, 2, 3])
        self.assertEqual(post.send("b", None)[1], [(0, 3, 1)])

    def test_all_strands_of_a_line_fallen(self):
        post = Post(chain(3, strands=2), 9, 9)
        for house, name in enumerate("abc"):
            post.lay(name, house, 0)
        post.send("c", None)
        self.assertEqual(post.fall(1, 0), [])
        self.assertEqual(post.fall(1, 1), [(0, 2)])
        self.assertEqual(post.send("a", "c"), ([(1, 0)], [(0, 0, 0)]))
        self.assertEqual(post.send("c", "a"), ([], []))

    def test_a_sender_whose_hearing_puts_out_the_other(self):
        post = Post(chain(3), 1, 9)
        for house, name in enumerate("abc"):
            post.lay(name, house, 0)
        post.send("b", None)
        self.assertEqual(post.send("a", "b"), ([(1, 0), (2, 0)], [(0, 0, 0), (1, 0, 1)]))
        self.assertEqual(post.entries(1), [(0, "a", ("line", 0), 0)])

    def test_a_house_alone(self):
        post = Post((((0, 0),), ()), 1, 1)
        post.lay("a", 0, 0)
        post.lay("b", 0, 1)
        self.assertEqual(post.send("a", "b"), ([(0, 1)], []))
        self.assertEqual(post.send("b", None), ([(0, 0)], []))

    def test_no_name_that_sends(self):
        post = sample_post()
        for deed in ("send", "would"):
            for to in ("a", "b", None, "y"):
                self.check_refused(post, 5, NoName, deed, "x", to)

    def test_down(self):
        post = sample_post()
        post.send("b", None)
        post.break_house(1)
        for deed in ("send", "would"):
            for to in ("a", "x", None):
                self.check_refused(post, 5, Down, deed, "b", to)
        post.mend_house(1)
        self.assertEqual(post.send("b", "a")[0], [(0, 0), (3, 2)])

    def test_no_name_goes_ahead_of_down(self):
        post = sample_post()
        for house in range(5):
            post.break_house(house)
        post.lift("b")
        for deed in ("send", "would"):
            self.check_refused(post, 5, NoName, deed, "b", "a")
            self.check_refused(post, 5, NoName, deed, "x", None)
            self.check_refused(post, 5, Down, deed, "a", "b")


class Would(PostTest):
    def test_tells_what_send_tells_and_changes_nothing(self):
        post = sample_post(room=2)
        for sender, to in (("a", "b"), ("b", "a"), ("c", None), ("a", "x"), ("a", "c"), ("e", "f"), ("f", "e")):
            ahead = state(post, 5, "abcdefx")
            told = post.would(sender, to)
            self.assertEqual(state(post, 5, "abcdefx"), ahead)
            self.assertEqual(post.would(sender, to), told)
            self.assertEqual(post.send(sender, to), told)

    def test_tells_what_comes_of_the_hearing_too(self):
        post = Post(chain(3), 1, 9)
        for house, name in enumerate("abc"):
            post.lay(name, house, 0)
        post.send("b", None)
        self.assertEqual(post.would("a", "b"), ([(1, 0), (2, 0)], [(0, 0, 0), (1, 0, 1)]))
        self.assertEqual(post.entries(1), [(0, "b", ("door", 0), 0)])


class Falling(PostTest):
    def test_falls(self):
        post = sample_post()
        post.fall(5, 2)
        post.fall(0, 1)
        post.break_house(4)
        post.fall(0, 0)
        post.break_house(2)
        self.assertEqual(post.falls(), ((2, 4), ((0, 0), (0, 1), (5, 2))))
        post.mend(0, 1)
        post.mend_house(2)
        self.assertEqual(post.falls(), ((4,), ((0, 0), (5, 2))))
        post.mend(0, 0)
        post.mend(5, 2)
        post.mend_house(4)
        self.assertEqual(post.falls(), WHOLE)

    def test_groups_with_another_tree(self):
        post = sample_post()
        self.assertEqual(post.fall(0, 0), [])
        # Group 0 then goes by line 3, group 1 is parted, group 5 has line 3 still.
        falls = ((), ((0, 0), (0, 1)))
        self.assertEqual(post.fall(0, 1), [(0, 3), (1, 1)])
        self.assertEqual([len(told_rows(SAMPLE, falls, group)) for group in (0, 1)], [3, 1])
        self.assertEqual(post.mend(0, 1), [(0, 3), (1, 2)])
        self.assertEqual(post.mend(0, 0), [])

    def test_a_line_that_is_in_no_tree(self):
        post = sample_post()
        post.send("a", None)
        told = [post.entries(house) for house in range(5)]
        self.assertEqual(post.fall(2, 0), [])
        self.assertEqual(post.mend(2, 0), [])
        self.assertEqual([post.entries(house) for house in range(5)], told)

    def test_the_tree_of_another_group_alone(self):
        post = sample_post()
        for name in ("a", "e"):
            post.send(name, None)
        self.assertEqual(post.entries(2), [(0, "a", ("line", 1), 0), (2, "e", ("line", 4), 0)])
        for number in range(3):
            self.assertEqual(post.fall(4, number), [])
        self.assertEqual(post.fall(4, 3), [(2, 1)])
        self.assertEqual(post.entries(2), [(0, "a", ("line", 1), 0)])
        self.assertEqual(post.entries(3), [(0, "a", ("line", 5), 0), (2, "e", ("door", 0), 0)])

    def test_what_was_heard_by_doors_stays(self):
        post = sample_post()
        for name in "abcdef":
            post.send(name, None)
        self.assertEqual(post.fall(1, 0), [(0, 3)])
        self.assertEqual(post.entries(0), [(0, "a", ("door", 0), 0), (1, "d", ("door", 1), 0)])
        self.assertEqual(post.entries(1), [(0, "b", ("door", 0), 0), (1, "d", ("line", 0), 0)])
        self.assertEqual(post.entries(2), [(2, "e", ("line", 4), 0), (2, "f", ("line", 4), 0)])

    def test_a_house_that_breaks(self):
        post = sample_post()
        for name in "abcdef":
            post.send(name, None)
        self.assertEqual(post.break_house(3), [(0, 2), (1, 2), (2, 1), (5, 2)])
        self.assertEqual(post.entries(3), [])
        self.assertEqual([post.entries(house) for house in (0, 1, 2)],
                         [[(0, "a", ("door", 0), 0), (1, "d", ("door", 1), 0)], [(0, "b", ("door", 0), 0)], []])
        self.assertEqual(post.mend_house(3), [(0, 3), (1, 2), (2, 2), (5, 2)])
        self.assertEqual(post.entries(3), [])

    def test_behind_a_houses_deed_each_group(self):
        post = sample_post()
        post.send("d", None)
        self.assertEqual(post.entries(1), [(1, "d", ("line", 0), 0)])
        # No line leads to house 4, and group 5 has no door at all.
        self.assertEqual(post.break_house(4), [(0, 3), (1, 2), (2, 2), (5, 2)])
        self.assertEqual(post.entries(1), [])
        post.send("d", None)
        self.assertEqual(post.entries(1), [(1, "d", ("line", 0), 0)])
        self.assertEqual(post.mend_house(4), [(0, 3), (1, 2), (2, 2), (5, 2)])
        self.assertEqual(post.entries(1), [])

    def test_all_houses_fallen(self):
        post = sample_post()
        for house in (3, 0, 4, 1):
            post.break_house(house)
        self.assertEqual(post.break_house(2), [(0, 1), (1, 1), (2, 1), (5, 1)])
        self.assertEqual(post.falls(), ((0, 1, 2, 3, 4), ()))
        self.assertEqual([post.entries(house) for house in range(5)], [[]] * 5)
        self.assertEqual(post.fall(0, 0), [])
        self.assertEqual(post.fall(0, 1), [])
        self.assertEqual(post.tick(3), [])
        self.assertEqual(post.wrong(), [])
        self.assertEqual(post.mend_house(0), [(0, 1), (1, 1), (2, 1), (5, 1)])

    def test_a_strand_of_a_line_whose_house_is_fallen(self):
        post = sample_post()
        post.break_house(2)
        self.assertEqual(post.fall(1, 0), [])
        self.assertEqual(post.mend(1, 0), [])
        self.assertEqual(post.falls(), ((2,), ()))

    def test_a_weaving_without_groups(self):
        post = Post(LONE, 1, 1)
        self.assertEqual(post.break_house(0), [])
        self.assertEqual(post.mend_house(0), [])

    def test_no_line(self):
        post = sample_post()
        post.fall(0, 1)
        for line, number in ((6, 0), (-1, 0), (-6, 0), (0, 2), (0, -1), (1, 1), (4, 4), (99, 99)):
            for deed in ("fall", "mend"):
                self.check_refused(post, 5, NoLine, deed, line, number)

    def test_no_house(self):
        post = sample_post()
        post.break_house(4)
        for house in (5, -1, -5, 99):
            for deed in ("break_house", "mend_house"):
                self.check_refused(post, 5, NoHouse, deed, house)

    def test_not_so(self):
        post = sample_post()
        post.send("a", None)
        self.check_refused(post, 5, NotSo, "mend", 0, 1)
        self.check_refused(post, 5, NotSo, "mend_house", 2)
        post.fall(0, 1)
        post.break_house(2)
        post.send("a", None)
        self.check_refused(post, 5, NotSo, "fall", 0, 1)
        self.check_refused(post, 5, NotSo, "break_house", 2)
        self.check_refused(post, 5, NotSo, "mend", 0, 0)
        self.check_refused(post, 5, NotSo, "mend_house", 1)

    def test_what_is_not_there_goes_ahead_of_not_so(self):
        # Nothing of it is fallen, so it is whole already; but it isn't there.
        post = Post(LONE, 1, 1)
        self.check_refused(post, 1, NoLine, "mend", 0, 0)
        self.check_refused(post, 1, NoHouse, "mend_house", 1)


class Ticking(PostTest):
    def test_all_houses_forget(self):
        post = sample_post(age=3)
        post.send("b", None)
        self.assertEqual(post.tick(1), [])
        post.send("a", "b")
        post.send("e", None)
        self.assertEqual(post.tick(1), [])
        self.assertEqual(post.entries(0), [(0, "a", ("door", 0), 1), (0, "b", ("line", 0), 2)])
        self.assertEqual(post.tick(1), [(0, 0, "b"), (1, 0, "b"), (2, 0, "b"), (3, 0, "b")])
        self.assertEqual(post.tick(7), [(0, 0, "a"), (1, 0, "a"), (2, 2, "e"), (3, 2, "e")])
        self.assertEqual(post.now(), 10)

    def test_nought_ticks(self):
        post = sample_post(age=1)
        post.send("a", None)
        ahead = state(post, 5)
        self.assertEqual(post.tick(0), [])
        self.assertEqual(state(post, 5), ahead)

    def test_at_once_and_one_by_one(self):
        for age in (1, 300, 500):
            both = (sample_post(age=age), sample_post(age=age))
            for post in both:
                post.send("a", None)
            told = [part for step in range(500) for part in both[1].tick(1)]
            self.assertEqual(both[0].tick(500), told)
            self.assertEqual(told, [(0, 0, "a"), (1, 0, "a"), (2, 0, "a"), (3, 0, "a")])
            self.assertEqual((both[0].now(), both[1].now()), (500, 500))

    def test_ticks_pass_at_fallen_houses_too(self):
        post = sample_post(age=9)
        post.break_house(0)
        post.tick(4)
        self.assertEqual(post.now(), 4)
        post.mend_house(0)
        self.assertEqual(post.now(), 4)
        post.send("a", None)
        self.assertEqual([entry[3] for house in range(5) for entry in post.entries(house)], [0] * 4)
        self.assertEqual(post.tick(8), [])
        self.assertEqual(len(post.tick(1)), 4)

    def test_a_house_that_broke_and_was_mended_hears_as_the_others(self):
        post = sample_post(age=5)
        post.tick(3)
        post.break_house(1)
        post.mend_house(1)
        post.send("a", None)
        self.assertEqual(post.entries(1), [(0, "a", ("line", 0), 0)])
        self.assertEqual(post.tick(4), [])
        self.assertEqual(post.tick(1), [(0, 0, "a"), (1, 0, "a"), (2, 0, "a"), (3, 0, "a")])


class Wrong(PostTest):
    def test_none_of_names_that_have_not_moved(self):
        post = sample_post()
        for name in "abcdef":
            post.send(name, None)
        self.assertEqual(post.wrong(), [])
        post.fall(1, 0)
        post.break_house(3)
        self.assertEqual(post.wrong(), [])

    def test_a_name_that_moved_to_another_house(self):
        post = sample_post()
        post.send("a", None)
        post.lay("a", 1, 0)
        # From house 2 it still lies by line 1.
        self.assertEqual(post.wrong(), [(0, 0, "a"), (1, 0, "a")])
        post.lay("a", 3, 2)
        self.assertEqual(post.wrong(), [(0, 0, "a"), (1, 0, "a"), (3, 0, "a")])
        post.lay("a", 0, 0)
        self.assertEqual(post.wrong(), [])

    def test_a_name_that_moved_to_another_door_of_its_house(self):
        post = sample_post()
        post.send("e", None)
        post.lay("e", 3, 1)
        self.assertEqual(post.wrong(), [(3, 2, "e")])
        post.send("e", None)
        self.assertEqual(post.wrong(), [])

    def test_a_name_that_moved_to_another_group(self):
        post = sample_post()
        post.send("a", None)
        post.lay("a", 0, 1)
        self.assertEqual(post.wrong(), [(house, 0, "a") for house in range(4)])
        post.send("a", None)
        self.assertEqual(post.wrong(), [(house, 0, "a") for house in range(4)])

    def test_a_name_that_lies_nowhere(self):
        post = sample_post()
        post.send("c", None)
        post.lift("c")
        self.assertEqual(post.wrong(), [(house, 0, "c") for house in range(4)])

    def test_a_name_that_moved_to_another_piece(self):
        weaving = (((0,), (0,), (0,)), ((0, 1, 1, (0,), 1),))
        post = Post(weaving, 9, 9)
        post.lay("a", 0, 0)
        post.send("a", None)
        post.lay("a", 2, 0)
        self.assertEqual(post.wrong(), [(0, 0, "a"), (1, 0, "a")])

    def test_a_name_that_moved_to_a_fallen_house(self):
        post = sample_post()
        post.break_house(1)
        post.send("c", None)
        post.lay("c", 1, 0)
        self.assertEqual(post.wrong(), [(0, 0, "c"), (2, 0, "c"), (3, 0, "c")])

    def test_rising_by_house_then_group_then_name(self):
        weaving = (((1, 0), (1, 0)), ((0, 1, 1, (0, 1), 1),))
        post = Post(weaving, 9, 9)
        for name, door in (("b", 0), ("a", 0), ("c", 1)):
            post.lay(name, 1, door)
            post.send(name, None)
        for name in "abc":
            post.lift(name)
        pairs = [(0, "c"), (1, "a"), (1, "b")]
        self.assertEqual(post.wrong(), [(0,) + pair for pair in pairs] + [(1,) + pair for pair in pairs])

    def test_none_behind_the_age(self):
        post = sample_post(age=4)
        post.send("a", None)
        post.tick(2)
        post.send("a", None)
        post.lay("a", 3, 2)
        self.assertEqual(post.tick(3), [])
        self.assertEqual(post.wrong(), [(0, 0, "a"), (1, 0, "a"), (3, 0, "a")])
        post.tick(1)
        self.assertEqual(post.wrong(), [])


class Twin(PostTest):
    def made(self):
        post = sample_post(room=3, age=6)
        for name in "abe":
            post.send(name, None)
        post.tick(2)
        post.lay("b", 0, 0)
        post.fall(5, 0)
        post.break_house(4)
        return post

    def test_stands_likewise(self):
        post = self.made()
        other = post.twin()
        self.assertIs(type(other), Post)
        self.assertEqual(state(other, 5, "abcdefx"), state(post, 5, "abcdefx"))
        self.assertEqual(other.twin().falls(), ((4,), ((5, 0),)))
        for deed, arguments in (("send", ("a", "b")), ("send", ("c", None)), ("tick", (4,)), ("fall", (5, 1)),
                                ("mend_house", (4,)), ("send", ("a", "c")), ("tick", (6,)), ("wrong", ())):
            self.assertEqual(getattr(other, deed)(*arguments), getattr(post, deed)(*arguments))
            self.assertEqual(state(other, 5, "abcdefx"), state(post, 5, "abcdefx"))

    def test_both_go_their_own_ways(self):
        deeds = (("lay", ("x", 0, 0)), ("lay", ("a", 3, 2)), ("lift", ("b",)), ("send", ("a", None)), ("tick", (1,)),
                 ("fall", (1, 0)), ("mend", (5, 0)), ("break_house", (1,)), ("mend_house", (4,)), ("tick", (9,)))
        for first, second in ((0, 1), (1, 0)):
            for at in range(len(deeds)):
                post = self.made()
                both = (post, post.twin())
                kept = state(both[second], 5, "abcdefx")
                getattr(both[first], deeds[at][0])(*deeds[at][1])
                self.assertEqual(state(both[second], 5, "abcdefx"), kept)
            for deed, arguments in deeds[1:]:
                if deed != "lay":
                    outcome(getattr(both[first], deed), *arguments)
                self.assertEqual(state(both[second], 5, "abcdefx"), kept)


class MadeOnes(unittest.TestCase):
    def check_deed(self, post, slow, many, deed, arguments):
        ahead = state(post, many)
        if deed == "send":
            told = outcome(post.would, *arguments)
            self.assertEqual(state(post, many), ahead)
            self.assertEqual(outcome(post.send, *arguments), told)
        else:
            told = outcome(getattr(post, deed), *arguments)
        self.assertEqual(told, outcome(getattr(slow, deed), *arguments), (deed, arguments))
        self.assertEqual(state(post, many), state(slow, many), (deed, arguments))
        if isinstance(told, type):
            self.assertEqual(state(post, many), ahead)

    def test_against_a_second_telling(self):
        dice = making.Dice(41)
        for case in range(30):
            weaving = making.made_weaving(dice)
            room, age = 1 + dice.below(6), 1 + dice.below(9)
            post, slow = Post(weaving, room, age), SlowPost(weaving, room, age)
            for step in range(60):
                deed, arguments = thrown_deed(dice, weaving)
                self.check_deed(post, slow, len(weaving[0]), deed, arguments)
                post = post.twin() if dice.below(10) == 0 else post

    def test_as_large_as_can_be(self):
        dice = making.Dice(42)
        lines = tuple((at % 11, 1 + at % 11 + dice.below(11 - at % 11), 1 + dice.below(99), (0, 1, 7), 4) for at in range(20))
        weaving = (((0, 1, 7, 0, 1, 0),) * 12, lines)
        names = [chr(97 + at // 6) * (1 + at % 6) for at in range(40)]
        post, slow = Post(weaving, 40, 500), SlowPost(weaving, 40, 500)
        for at, name in enumerate(names):
            for each in (post, slow):
                each.lay(name, at % 12, at % 6)
        for name in names:
            self.assertEqual(post.send(name, None), slow.send(name, None))
        for at in range(20):
            sender, to = names[dice.below(40)], names[dice.below(39)]
            if sender != to:
                self.assertEqual(post.send(sender, to), slow.send(sender, to))
        self.assertEqual(post.fall(0, 0), slow.fall(0, 0))
        self.assertEqual(post.break_house(0), slow.break_house(0))
        self.assertEqual(post.tick(499), slow.tick(499))
        self.assertEqual(state(post, 12, names), state(slow, 12, names))
        self.assertEqual(post.tick(1), slow.tick(1))
        self.assertEqual(state(post, 12, names), state(slow, 12, names))


if __name__ == "__main__":
    unittest.main()
