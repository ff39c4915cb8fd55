"""[2]: nothing handed in is changed or kept, and what is told is the asker's own."""

import copy
import unittest

from namelines.telling import shows_rows, told_rows
from namelines.trees import shows_tree, tree, tree_lines, way_between
from namelines.weavings import groups_of, is_falls, is_weaving, pieces, standing, whole_strands
from tests import making
from tests.making import JUNK, SAMPLE, WHOLE

CASES = [(SAMPLE, WHOLE, 0), (SAMPLE, ((1,), ((4, 0),)), 0), (SAMPLE, ((0, 1, 2, 3, 4), ()), 0), (SAMPLE, WHOLE, 7)]
CASES += list(making.made_cases(30, seed=3))


def asks(weaving, falls, group):
    """All that is told of these, as functions without arguments."""
    last = len(weaving[0]) - 1
    yield lambda: groups_of(weaving)
    for line in range(len(weaving[1])):
        yield lambda line=line: whole_strands(weaving, falls, line)
    for ask in (standing, pieces, tree, tree_lines, told_rows):
        yield lambda ask=ask: ask(weaving, falls, group)
    yield lambda: way_between(weaving, falls, group, 0, last)
    yield lambda: way_between(weaving, falls, group, 0, 0)


def spoil(thing):
    for part in making.lists_in(thing):
        part.append("spoilt")
        part.reverse()


class Asked:
    """What holds of all that can be asked; all_asks() gives these asks as functions without arguments."""

    def test_changing_what_was_told_changes_nothing_told_later(self):
        for ask in self.all_asks():
            kept = copy.deepcopy(ask())
            spoil(ask())
            self.assertEqual(repr(ask()), repr(kept))

    def test_what_was_told_stays_when_something_else_is_asked(self):
        told = [ask() for ask in self.all_asks()]
        kept = copy.deepcopy(told)
        for ask in self.all_asks():
            spoil(ask())
        self.assertEqual(told, kept)

    def test_no_two_told_lists_are_one_and_the_same(self):
        told = [ask() for again in range(2) for ask in self.all_asks()]
        found = [part for thing in told for part in making.lists_in(thing)]
        self.assertEqual(len({id(part) for part in found}), len(found))

    def test_asked_again_all_is_told_the_same(self):
        for ask in self.all_asks():
            self.assertEqual(repr(ask()), repr(ask()))


class Owning(Asked, unittest.TestCase):
    def all_asks(self):
        return [ask for case in CASES for ask in asks(*case)]

    def test_kinds_of_what_is_told(self):
        for weaving, falls, group in CASES:
            self.assertIs(type(groups_of(weaving)), list)
            self.assertTrue(all(type(piece) is list for piece in pieces(weaving, falls, group)))
            self.assertTrue(all(type(row) is list for row in told_rows(weaving, falls, group)))
            for ask in (standing, pieces, tree, tree_lines, told_rows):
                self.assertIs(type(ask(weaving, falls, group)), list)
            for part in tree(weaving, falls, group) + sum(told_rows(weaving, falls, group), []):
                self.assertTrue(part is None or [type(number) for number in part] == [int] * 3)
                self.assertTrue(part is None or type(part) is tuple)

    def test_what_was_told_may_be_handed_in_again(self):
        for case in CASES:
            told, rows = tree(*case), told_rows(*case)
            for again in range(2):
                self.assertIs(shows_tree(*case, told), True)
                self.assertIs(shows_tree(*case, rows[-1]), True)
                self.assertIs(shows_rows(*case, rows), True)
            self.assertEqual(told, tree(*case))
            self.assertEqual(rows, told_rows(*case))

    def test_things_asked_of_stay_as_they_were(self):
        things = JUNK + [tree(SAMPLE, WHOLE, 0), told_rows(SAMPLE, WHOLE, 0), [SAMPLE, [WHOLE]], list(SAMPLE)]
        kept = repr(things)
        for thing in things:
            is_weaving(thing)
            is_falls(SAMPLE, thing)
            shows_tree(SAMPLE, WHOLE, 0, thing)
            shows_rows(SAMPLE, WHOLE, 0, thing)
        self.assertEqual(repr(things), kept)

    def test_things_asked_of_are_not_kept(self):
        told, rows = tree(SAMPLE, WHOLE, 0), told_rows(SAMPLE, WHOLE, 0)
        self.assertIs(shows_tree(SAMPLE, WHOLE, 0, told), True)
        self.assertIs(shows_rows(SAMPLE, WHOLE, 0, rows), True)
        told[0] = rows[0][0] = None
        self.assertIs(shows_tree(SAMPLE, WHOLE, 0, told), False)
        self.assertIs(shows_rows(SAMPLE, WHOLE, 0, rows), False)
        self.assertEqual(tree(SAMPLE, WHOLE, 0), making.SAMPLE_TREE)
        self.assertEqual(told_rows(SAMPLE, WHOLE, 0), making.SAMPLE_ROWS)

    def test_twelve_deep(self):
        for wrap in (making.in_list, making.in_tuple):
            for many in range(13):
                thing = making.deep(many, wrap)
                told = (is_weaving(thing), is_falls(SAMPLE, thing), shows_tree(SAMPLE, WHOLE, 0, thing),
                        shows_rows(SAMPLE, WHOLE, 0, thing))
                self.assertEqual(told, (False, False, False, False))


if __name__ == "__main__":
    unittest.main()
