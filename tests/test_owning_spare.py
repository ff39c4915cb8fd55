"""[2], of what parts two houses, of texts and of a desk: nothing handed in is changed or kept, what is told is one's own."""

import copy
import unittest

from namelines.desk import answers
from namelines.spare import apart
from namelines.sparecheck import shows_parting, shows_ways, weakest
from namelines.texts import weaving_from, weaving_text
from tests import making
from tests.making import JUNK, SAMPLE, WHOLE
from tests.test_owning import Asked
from tests.test_owning_objects import kinds_in
from tests.test_spare import whole_pairs

CASES = [(SAMPLE, WHOLE, 0), (SAMPLE, WHOLE, 7), (SAMPLE, ((1,), ((4, 0),)), 0), (SAMPLE, ((0, 1, 2, 3, 4), ()), 0)]
CASES += list(making.made_cases(30, seed=101))
DEEDS = "\npost 4 9\nlay a 0 0\nlay b 0 1\nsend a b\ntable 0\nbreak 0\nwrong\ntree 0\nsend a\ntick 9"


def asks(weaving, falls, group):
    """All that is told of these, as functions without arguments."""
    for one, other in whole_pairs(weaving, falls):
        yield lambda one=one, other=other: apart(weaving, falls, group, one, other)
    yield lambda: weakest(weaving, falls, group)
    yield lambda: weaving_text(weaving)
    yield lambda: weaving_from(weaving_text(weaving))
    yield lambda: answers(weaving_text(weaving) + DEEDS)


class Owning(Asked, unittest.TestCase):
    # Which strands and ways are told isn't promised, but asked again the same ones are told.
    def all_asks(self):
        return [ask for case in CASES for ask in asks(*case)]

    def test_empty_lists_are_lists_of_their_own_too(self):
        one, other = apart(SAMPLE, WHOLE, 7, 0, 1), apart(SAMPLE, WHOLE, 7, 0, 1)
        told = [*one, *other, weakest(SAMPLE, WHOLE, 7), weakest(SAMPLE, WHOLE, 7), answers("house\npost 1 1")]
        self.assertEqual(told, [[]] * 7)
        self.assertEqual(len({id(part) for part in told}), 7)

    def test_kinds_of_what_is_told(self):
        weaving = (((), ()), ((0, 1, 1, (0,), 1),))
        self.assertEqual(kinds_in(apart(weaving, WHOLE, 0, 0, 1)),
                         [tuple, list, tuple, int, int, list, list, tuple, int, int])
        self.assertEqual(kinds_in(weakest(weaving, WHOLE, 0)), [list, tuple, int, int])
        self.assertEqual(kinds_in(weaving_from("house\nhouse\nline 0 1 1 1 0")), kinds_in(weaving))
        self.assertEqual(kinds_in(weaving_text(weaving)), [str])
        self.assertEqual(set(kinds_in(answers(weaving_text(SAMPLE) + DEEDS))), {list, str})
        self.assertEqual({kind for case in CASES for kind in kinds_in(weaving_from(weaving_text(case[0])))},
                         {tuple, int})

    def test_what_was_told_may_be_handed_in_again(self):
        for weaving, falls, group in CASES:
            for one, other in whole_pairs(weaving, falls):
                told = apart(weaving, falls, group, one, other)
                kept = copy.deepcopy(told)
                for again in range(2):
                    self.assertIs(shows_parting(weaving, falls, group, one, other, told[0]), True)
                    self.assertIs(shows_ways(weaving, falls, group, one, other, told[1]), True)
                self.assertEqual(told, kept)
            again = weaving_from(weaving_text(weaving))
            self.assertEqual(weakest(again, falls, group), weakest(weaving, falls, group))

    def test_things_asked_of_stay_as_they_were(self):
        things = JUNK + [apart(SAMPLE, WHOLE, 0, 0, 3)[0], apart(SAMPLE, WHOLE, 0, 0, 3)[1], making.all_strands(SAMPLE),
                         [[(0, 0), (5, 0)], [(0, 0)]], [[0, 0], [1, 0]], [[[0, 0], [5, 0]]]]
        kept = repr(things)
        for thing in things:
            shows_parting(SAMPLE, WHOLE, 0, 0, 3, thing)
            shows_ways(SAMPLE, WHOLE, 0, 0, 3, thing)
        self.assertEqual(repr(things), kept)

    def test_things_asked_of_are_not_kept(self):
        strands, ways = apart(SAMPLE, WHOLE, 0, 0, 3)
        self.assertIs(shows_parting(SAMPLE, WHOLE, 0, 0, 3, strands), True)
        self.assertIs(shows_ways(SAMPLE, WHOLE, 0, 0, 3, ways), True)
        strands.pop()
        ways[0].pop()
        self.assertIs(shows_parting(SAMPLE, WHOLE, 0, 0, 3, strands), False)
        self.assertIs(shows_ways(SAMPLE, WHOLE, 0, 0, 3, ways), False)
        self.assertIs(shows_parting(SAMPLE, WHOLE, 0, 0, 3, apart(SAMPLE, WHOLE, 0, 0, 3)[0]), True)

    def test_twelve_deep(self):
        for wrap in (making.in_list, making.in_tuple):
            for many in range(13):
                thing = making.deep(many, wrap)
                self.assertIs(shows_parting(SAMPLE, WHOLE, 0, 0, 3, thing), False)
                self.assertIs(shows_ways(SAMPLE, WHOLE, 0, 0, 3, thing), False)


if __name__ == "__main__":
    unittest.main()
