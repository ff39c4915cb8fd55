"""[1]: what is promised of the whole, looked at in posts to which many things happen."""

import unittest

from namelines.letters import reached, shows_sent
from namelines.posts import Post
from namelines.spare import apart
from namelines.sparecheck import shows_parting, shows_ways
from namelines.telling import told_rows
from namelines.trees import tree, way_between
from namelines.weavings import groups_of
from tests import making
from tests.slowpost import NAMES, outcome, thrown_deed
from tests.test_spare import whole_pairs


def group_of(weaving, place):
    return weaving[0][place[0]][place[1]]


class Run:
    """A post to which things happen, and which of its names have moved since a house may have heard them."""

    def __init__(self, test, dice, room, age):
        self.test, self.dice, self.room, self.age = test, dice, room, age
        self.weaving = making.dense_weaving(dice)
        self.many = len(self.weaving[0])
        self.post = Post(self.weaving, room, age)
        for name in NAMES:
            house = dice.below(self.many)
            self.post.lay(name, house, dice.below(len(self.weaving[0][house])))
        self.moved = {}
        self.sent_in = {name: set() for name in NAMES}
        self.found = self.alone = 0

    def knows(self, house, group, name):
        return any(entry[:2] == (group, name) for entry in self.post.entries(house))

    def is_settled(self, name):
        """Whether the name can't have moved since a house heard what it knows of it."""
        return self.post.now() - self.moved.get(name, -self.age) >= self.age

    def deed(self):
        deed, arguments = thrown_deed(self.dice, self.weaving)
        if deed == "lay" and self.post.place_of(arguments[0]) and self.dice.below(5):
            # A name that moves all the time is never settled.
            deed, arguments = "send", (arguments[0], "b" if arguments[0] == "a" else "a")
        if deed == "send":
            self.send(*arguments)
        else:
            self.do(deed, arguments)
        for house in range(self.many):
            self.look_at_table(house)
        for house, group, name in self.post.wrong():
            self.test.assertFalse(self.is_settled(name))

    def do(self, deed, arguments):
        place = self.post.place_of(arguments[0]) if deed in ("lay", "lift") else None
        told = outcome(getattr(self.post, deed), *arguments)
        if deed in ("lay", "lift") and place != self.post.place_of(arguments[0]):
            heard = any(entry[1] == arguments[0] for house in range(self.many) for entry in self.post.entries(house))
            if heard:
                self.moved[arguments[0]] = self.post.now()
        if type(told) is list and deed != "tick":
            self.look_at_trees(told)

    def look_at_trees(self, told):
        falls = self.post.falls()
        whole = self.many - len(falls[0])
        for group, rows in told:
            self.test.assertLessEqual(rows, max(1, whole))
        for group in groups_of(self.weaving):
            rows = told_rows(self.weaving, falls, group)
            self.test.assertLessEqual(len(rows), max(1, whole))
            self.test.assertEqual(rows[-1], tree(self.weaving, falls, group))

    def look_at_table(self, house):
        entries = self.post.entries(house)
        self.test.assertLessEqual(len(entries), self.room)
        for group, name, way, ago in entries:
            self.test.assertIn(group, self.sent_in[name])
            self.test.assertLess(ago, self.age)

    def send(self, sender, to):
        told = outcome(self.post.send, sender, to)
        if isinstance(told, type):
            return
        place, falls = self.post.place_of(sender), self.post.falls()
        group = group_of(self.weaving, place)
        self.sent_in[sender].add(group)
        self.look_at_letter(place, group, told)
        there = reached(self.weaving, falls, group, place[0])
        if to is None:
            self.test.assertEqual(told[0], [other for other in there if other != place])
        elif self.post.place_of(to) in there and self.is_settled(to):
            self.look_at_coming(place, self.post.place_of(to), group, to, told[0])

    def look_at_letter(self, place, group, told):
        """It doesn't go round, and keeps to its group."""
        came, gone = told
        lines = [line for line, strand, house in gone]
        self.test.assertEqual(len(lines), len(set(lines)))
        self.test.assertEqual(len(came), len(set(came)))
        self.test.assertNotIn(place, came)
        self.test.assertTrue(all(group in self.weaving[1][line][3] for line in lines))
        self.test.assertTrue(all(group_of(self.weaving, other) == group for other in came))
        self.test.assertIs(shows_sent(self.weaving, self.post.falls(), group, place, told), True)

    def look_at_coming(self, place, goal, group, to, came):
        self.found += 1
        if goal != place:
            self.test.assertIn(goal, came)
        # Each house hears the sender alone, so what it knows of the other now it knew when it had heard the sender.
        way = way_between(self.weaving, self.post.falls(), group, place[0], goal[0])
        houses = {place[0]} | {house for line in way for house in self.weaving[1][line][:2]}
        if all(self.knows(house, group, to) for house in houses):
            self.alone += 1
            self.test.assertEqual(came, [goal] if goal != place else [])


class TheWhole(unittest.TestCase):
    def test_what_happens_to_posts(self):
        dice = making.Dice(51)
        found = alone = 0
        for case in range(60):
            run = Run(self, dice, 1 + dice.below(8), 1 + dice.below(6))
            for step in range(80):
                run.deed()
            found += run.found
            alone += run.alone
        self.assertGreater(found, 300)
        self.assertGreater(alone, 100)

    def test_a_name_that_has_moved_is_found_behind_the_age(self):
        dice = making.Dice(52)
        tried = 0
        for case in range(60):
            age = 1 + dice.below(5)
            run = Run(self, dice, 2 + dice.below(6), age)
            for step in range(50):
                run.deed()
            post, weaving = run.post, run.weaving
            for step in range(age):
                # Letters that are sent meanwhile keep no wrong entry alive.
                for name in NAMES:
                    outcome(post.send, name, None)
                    outcome(post.send, name, "x" if name == "a" else "a")
                post.tick(1)
            self.assertEqual(post.wrong(), [])
            for name in NAMES:
                for other in NAMES:
                    place, goal = post.place_of(name), post.place_of(other)
                    if name != other and place and goal and place != goal and place[0] not in post.falls()[0]:
                        group = group_of(weaving, place)
                        if goal in reached(weaving, post.falls(), group, place[0]):
                            tried += 1
                            self.assertIn(goal, post.send(name, other)[0])
        self.assertGreater(tried, 50)

    def test_as_many_ways_as_strands_that_part_two_houses(self):
        dice = making.Dice(53)
        parted = 0
        for case in range(30):
            run = Run(self, dice, 4, 4)
            for step in range(20):
                run.deed()
            post, weaving, falls = run.post, run.weaving, run.post.falls()
            for one, other in whole_pairs(weaving, falls):
                for group in groups_of(weaving):
                    strands, ways = apart(weaving, falls, group, one, other)
                    self.assertEqual(len(strands), len(ways))
                    self.assertIs(shows_parting(weaving, falls, group, one, other, strands), True)
                    self.assertIs(shows_ways(weaving, falls, group, one, other, ways), True)
                    # Each way goes by one of the strands, so none of these can be left whole.
                    self.assertTrue(all(set(way) & set(strands) for way in ways))
                    parted += self.look_at_parting(post.twin(), weaving, group, one, other, strands)
        self.assertGreater(parted, 300)

    def look_at_parting(self, post, weaving, group, one, other, strands):
        """Where the strands fall one by one, the last one parts the houses."""
        for strand in strands:
            self.assertIsNotNone(way_between(weaving, post.falls(), group, one, other))
            post.fall(*strand)
        self.assertIsNone(way_between(weaving, post.falls(), group, one, other))
        return len(strands) > 0

    def test_a_name_that_has_moved_may_be_missed_until_then(self):
        weaving = (((0,), (0,), (0,)), ((0, 1, 1, (0,), 1), (1, 2, 1, (0,), 1)))
        post = Post(weaving, 9, 3)
        for house, name in enumerate("abc"):
            post.lay(name, house, 0)
        post.send("a", None)
        post.lay("a", 2, 0)
        self.assertEqual(post.send("b", "a"), ([(0, 0)], [(0, 0, 1)]))
        post.tick(2)
        self.assertEqual(post.send("b", "a"), ([(0, 0)], [(0, 0, 1)]))
        post.tick(1)
        self.assertEqual(post.send("b", "a"), ([(0, 0), (2, 0)], [(0, 0, 1), (1, 0, 1)]))


if __name__ == "__main__":
    unittest.main()
