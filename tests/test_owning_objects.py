"""[2], of tables and posts: nothing handed in is changed or kept, and what is told is the asker's own."""

import copy
import unittest

from namelines.handing import strand_of, take, ways_at
from namelines.letters import reached, shows_sent
from namelines.posts import Post
from namelines.tables import Table
from tests import making
from tests.making import JUNK, SAMPLE, WHOLE
from tests.slowpost import outcome, state

NAMES = "abcdefx"
HEARD = ((0, "a", ("door", 0)), (0, "b", ("line", 1)), (1, "a", ("line", 1)), (2, "c", ("line", 0)))
DEEDS = (("hear", (3, "d", ("door", 5))), ("forget", (("line", 1),)), ("drop_lines", (2,)), ("tick", (2,)), ("tick", (9,)))


def made_table():
    table = Table(4, 5)
    for heard in HEARD:
        table.hear(*heard)
        table.tick(1)
    return table


def made_post():
    post = Post(SAMPLE, 4, 9)
    for name, house, door in (("a", 0, 0), ("b", 1, 0), ("c", 3, 2), ("d", 0, 1), ("e", 3, 0), ("f", 3, 1)):
        post.lay(name, house, door)
        post.send(name, None)
    post.lay("a", 3, 2)
    post.fall(2, 0)
    post.tick(1)
    return post


def deeds_of_post():
    """Deeds and asks by which lists are told."""
    return (("send", ("a", None)), ("send", ("b", "a")), ("would", ("c", "x")), ("wrong", ()), ("entries", (0,)),
            ("entries", (3,)), ("fall", (1, 0)), ("mend", (1, 0)), ("break_house", (2,)), ("mend_house", (2,)),
            ("send", ("e", "f")), ("tick", (8,)), ("tick", (1,)), ("falls", ()))


def spoil(thing):
    for part in making.lists_in(thing):
        part.append("spoilt")
        part.reverse()


def kinds_in(thing):
    """The kinds of all that stands in a thing, its own first."""
    if type(thing) in (list, tuple):
        return [type(thing)] + [kind for part in thing for kind in kinds_in(part)]
    return [type(thing)]


class Tables(unittest.TestCase):
    def test_changing_what_was_told_changes_nothing_told_later(self):
        for deed, arguments in DEEDS + (("entries", ()),):
            table, other = made_table(), made_table()
            spoil(getattr(table, deed)(*arguments))
            getattr(other, deed)(*arguments)
            self.assertEqual(table.entries(), other.entries())
            self.assertEqual(table.now(), other.now())

    def test_what_was_told_stays(self):
        table = made_table()
        told, kept = [table.entries()], [table.entries()]
        for deed, arguments in DEEDS:
            told.append(getattr(table, deed)(*arguments))
            kept.append(copy.deepcopy(told[-1]))
            told.append(table.entries())
            kept.append(copy.deepcopy(told[-1]))
        self.assertEqual(told, kept)

    def test_asked_again_all_is_told_the_same_in_lists_of_their_own(self):
        table = made_table()
        self.assertEqual(table.entries(), table.entries())
        self.assertIsNot(table.entries(), table.entries())
        self.assertEqual(table.way_of(0, "b"), table.way_of(0, "b"))
        self.assertEqual(table.now(), table.now())

    def test_empty_lists_are_lists_of_their_own_too(self):
        table = Table(1, 1)
        told = [table.entries(), table.forget(("door", 0)), table.drop_lines(0), table.tick(0), table.tick(0),
                table.entries(), table.twin().entries()]
        self.assertEqual(told, [[]] * 7)
        self.assertEqual(len({id(part) for part in told}), 7)

    def test_kinds_of_what_is_told(self):
        table = made_table()
        self.assertEqual([kinds_in(entry) for entry in table.entries()],
                         [[tuple, int, str, tuple, str, int, int]] * len(table.entries()))
        self.assertEqual(kinds_in(table.hear(5, "z", ("door", 0)) or table.hear(5, "y", ("door", 0))), [tuple, int, str])
        self.assertEqual(kinds_in(table.way_of(0, "b")), [tuple, str, int])
        self.assertEqual(kinds_in(table.forget(("line", 1))), [list, tuple, int, str, tuple, int, str])
        self.assertEqual(kinds_in(table.tick(9))[:4], [list, tuple, int, str])


class Handing(unittest.TestCase):
    def test_ways_and_numbers_stay_as_they_were_and_are_not_kept(self):
        ways, numbers = ways_at(SAMPLE, WHOLE, 0, 0), [0, 1]
        kept = list(ways)
        table = Table(3, 3)
        for letter in ((0, "a", None), (0, "a", "b"), (0, "b", "a")):
            told = take(table, letter, ways[0], ways)
            self.assertEqual(ways, kept)
            self.assertIsNot(told, ways)
            spoil(told)
            self.assertEqual(ways, kept)
        self.assertEqual(strand_of("a", "b", numbers), 1)
        self.assertEqual(numbers, [0, 1])
        told = take(table, (0, "a", "x"), ways[0], ways)
        wanted = list(told)
        entries = table.entries()
        ways.clear()
        self.assertEqual(told, wanted)
        self.assertEqual(table.entries(), entries)

    def test_the_table_hears_the_sender_and_nothing_else_is_done_to_it(self):
        one, other = made_table(), made_table()
        take(one, (0, "z", "b"), ("line", 1), [("door", 0), ("line", 1)])
        other.hear(0, "z", ("line", 1))
        self.assertEqual((one.entries(), one.now()), (other.entries(), other.now()))

    def test_what_is_told_is_the_askers_own(self):
        for ask in (lambda: ways_at(SAMPLE, WHOLE, 0, 0), lambda: ways_at(SAMPLE, WHOLE, 7, 0),
                    lambda: reached(SAMPLE, WHOLE, 0, 0), lambda: reached(SAMPLE, WHOLE, 7, 0)):
            kept = copy.deepcopy(ask())
            self.assertIsNot(ask(), ask())
            spoil(ask())
            self.assertEqual(ask(), kept)

    def test_kinds_of_what_is_told(self):
        self.assertEqual(kinds_in(ways_at(SAMPLE, WHOLE, 0, 2)), [list, tuple, str, int])
        self.assertEqual(kinds_in(reached(SAMPLE, WHOLE, 1, 4)), [list, tuple, int, int])
        self.assertEqual(kinds_in(take(Table(1, 1), (0, "a", None), ("door", 0), [("door", 0), ("line", 3)])),
                         [list, tuple, str, int])


class Posts(unittest.TestCase):
    def test_changing_what_was_told_changes_nothing_told_later(self):
        post, other = made_post(), made_post()
        for deed, arguments in deeds_of_post():
            told, wanted = getattr(post, deed)(*arguments), getattr(other, deed)(*arguments)
            self.assertEqual(told, wanted)
            spoil(told)
            self.assertEqual(state(post, 5, NAMES), state(other, 5, NAMES))

    def test_what_was_told_stays(self):
        post = made_post()
        told, kept = [], []
        for deed, arguments in deeds_of_post():
            told += [getattr(post, deed)(*arguments), state(post, 5, NAMES)]
            kept += copy.deepcopy(told[-2:])
        self.assertEqual(told, kept)

    def test_no_two_told_lists_are_one_and_the_same(self):
        post = made_post()
        told = []
        for deed, arguments in deeds_of_post():
            told += [getattr(post, deed)(*arguments), state(post, 5, NAMES), post.twin().wrong(), post.would("a", "b")]
        found = [part for thing in told for part in making.lists_in(thing)]
        self.assertEqual(len({id(part) for part in found}), len(found))

    def test_asked_again_all_is_told_the_same(self):
        post = made_post()
        for deed, arguments in deeds_of_post():
            getattr(post, deed)(*arguments)
            self.assertEqual(state(post, 5, NAMES), state(post, 5, NAMES))
            self.assertEqual(post.would("a", "b"), post.would("a", "b"))

    def test_kinds_of_what_is_told(self):
        post = made_post()
        self.assertEqual(kinds_in(post.falls()), [tuple, tuple, tuple, tuple, int, int])
        self.assertEqual(kinds_in(post.place_of("a")), [tuple, int, int])
        self.assertEqual(kinds_in(post.send("e", "f")), [tuple, list, tuple, int, int, list])
        self.assertEqual(kinds_in(post.wrong())[:5], [list, tuple, int, int, str])
        self.assertEqual(kinds_in(post.fall(1, 0)), [list, tuple, int, int])
        self.assertEqual(kinds_in(post.tick(9))[:5], [list, tuple, int, int, str])
        self.assertEqual(kinds_in(post.entries(0)), [list])
        self.assertEqual(kinds_in(post.now()), [int])
        self.assertEqual([outcome(post.lay, "a", 0, 0), outcome(post.lift, "a")], [None, None])

    def test_posts_of_one_weaving_share_nothing(self):
        one, other = Post(SAMPLE, 4, 9), Post(SAMPLE, 4, 9)
        one.lay("a", 0, 0)
        one.send("a", None)
        one.break_house(2)
        one.tick(1)
        self.assertEqual(state(other, 5, NAMES), state(Post(SAMPLE, 4, 9), 5, NAMES))

    def test_what_was_told_may_be_handed_in_again(self):
        post = made_post()
        told = post.send("b", None)
        kept = copy.deepcopy(told)
        self.assertIs(shows_sent(SAMPLE, post.falls(), 0, post.place_of("b"), told), True)
        self.assertEqual(told, kept)
        self.assertIs(shows_sent(SAMPLE, post.falls(), 0, post.place_of("b"), told), True)


class Things(unittest.TestCase):
    def test_things_asked_of_stay_as_they_were_and_are_not_kept(self):
        things = JUNK + [([(1, 0), (3, 2)], [(0, 1, 0), (1, 0, 0), (5, 2, 1)]), ([(1, 0)], []), ([[1, 0]], [[0, 1, 0]])]
        kept = repr(things)
        for thing in things:
            shows_sent(SAMPLE, WHOLE, 0, (0, 0), thing)
        self.assertEqual(repr(things), kept)
        thing = ([(1, 0)], [(0, 1, 0)])
        self.assertIs(shows_sent(SAMPLE, WHOLE, 0, (0, 0), thing), True)
        thing[1].clear()
        self.assertIs(shows_sent(SAMPLE, WHOLE, 0, (0, 0), thing), False)

    def test_twelve_deep(self):
        for wrap in (making.in_list, making.in_tuple):
            for many in range(13):
                self.assertIs(shows_sent(SAMPLE, WHOLE, 0, (0, 0), making.deep(many, wrap)), False)


if __name__ == "__main__":
    unittest.main()
