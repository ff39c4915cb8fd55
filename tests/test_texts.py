"""[15]: a weaving's text, written and read."""

import unittest

from namelines.errors import BadRow, LineError
from namelines.texts import weaving_from, weaving_text
from namelines.weavings import is_weaving
from tests import making, slowdesk
from tests.making import LONE, SAMPLE

SAMPLE_TEXT = """house 0 1
house 0
house
house 2 2 0
house 1
line 0 1 3 2 0 1
line 0 2 1 1 0
line 1 2 2 1 0
line 0 1 3 1 0 5
line 2 3 4 4 0 2
line 1 3 2 3 0"""
SIGNS = "0123456789 \nhouselin-+.,_~!AH"


def read(text):
    """The weaving, or the number of the row that is refused."""
    try:
        return weaving_from(text)
    except BadRow as refusal:
        return refusal.row


class Writing(unittest.TestCase):
    def test_sample(self):
        self.assertEqual(weaving_text(SAMPLE), SAMPLE_TEXT)

    def test_a_house_without_doors(self):
        self.assertEqual(weaving_text(LONE), "house")
        self.assertEqual(weaving_text((((), (7,), ()), ())), "house\nhouse 7\nhouse")

    def test_doors_in_their_own_order(self):
        self.assertEqual(weaving_text((((3, 0, 3, 7),), ())), "house 3 0 3 7")

    def test_strands_stand_ahead_of_the_groups(self):
        self.assertEqual(weaving_text((((), ()), ((0, 1, 99, (2, 5, 6), 3),))), "house\nhouse\nline 0 1 99 3 2 5 6")

    def test_large_numbers(self):
        weaving = (((),) * 101, ((9, 100, 9999, (0,), 4),))
        self.assertEqual(weaving_text(weaving).split("\n")[-1], "line 9 100 9999 4 0")
        self.assertEqual(weaving_from(weaving_text(weaving)), weaving)


class Reading(unittest.TestCase):
    def check_good(self, weaving, text):
        self.assertEqual(weaving_from(text), weaving)
        self.assertIs(is_weaving(weaving_from(text)), True)
        self.assertEqual(weaving_text(weaving_from(text)), text)

    def check_bad(self, row, *texts):
        for text in texts:
            with self.subTest(text=text):
                with self.assertRaises(LineError) as caught:
                    weaving_from(text)
                self.assertIs(type(caught.exception), BadRow)
                self.assertEqual(caught.exception.row, row)
                self.assertIs(type(caught.exception.row), int)

    def test_sample(self):
        self.check_good(SAMPLE, SAMPLE_TEXT)

    def test_houses_alone(self):
        self.check_good(LONE, "house")
        self.check_good((((), ()), ()), "house\nhouse")
        self.check_good((((0, 7, 7, 0, 3),), ()), "house 0 7 7 0 3")

    def test_the_text_without_signs(self):
        self.check_bad(0, "")

    def test_empty_rows(self):
        self.check_bad(0, "\n", "\nhouse", "\n\n")
        self.check_bad(1, "house\n", "house\n\n", "house\n\nhouse", "house 0\n\nline 0 1 1 1 0")
        self.check_bad(3, "house\nhouse\nline 0 1 1 1 0\n")

    def test_blanks(self):
        self.check_bad(0, " ", " house", "house ", "house  0", "house 0 ", "house 0  1", "house 0 1 ", " house 0", "  ")
        self.check_bad(2, "house\nhouse\nline  0 1 1 1 0", "house\nhouse\nline 0 1 1 1 0 ",
                       "house\nhouse\n line 0 1 1 1 0",
                       "house\nhouse\nline 0 1 1 1  0", "house\nhouse\n ")

    def test_other_words(self):
        self.check_bad(0, "House", "houses", "hous", "HOUSE 0", "house0", "door 0", "0", "post 1 1", "line", "lines",
                       "-", "house\t0",
                       "house\r", "house,0", "\thouse")
        self.check_bad(1, "house\nhous", "house\nLINE 0 1 1 1 0", "house\nlay anna 0 0", "house\nwrong",
                       "house\npost 1 1")

    def test_noughts_ahead(self):
        self.check_good((((0,),), ()), "house 0")
        self.check_bad(0, "house 00", "house 01", "house 007", "house 0 00", "house 0000")
        self.check_bad(2, "house\nhouse\nline 00 1 1 1 0", "house\nhouse\nline 0 01 1 1 0",
                       "house\nhouse\nline 0 1 01 1 0",
                       "house\nhouse\nline 0 1 1 01 0", "house\nhouse\nline 0 1 1 1 00",
                       "house\nhouse\nline 0 1 0099 1 0")

    def test_what_is_no_number(self):
        self.check_bad(0, "house -1", "house +1", "house 1.0", "house a", "house 1_0", "house 0x1", "house 1e0",
                       "house -0", "house -",
                       "house house", "house 1,2", "house ~", "house \u0661", "house \u00b2", "house \uff11")

    def test_four_and_five_figures(self):
        for cost in (1, 10, 99, 100, 999, 1000, 9999):
            self.check_good((((), ()), ((0, 1, cost, (0,), 1),)), f"house\nhouse\nline 0 1 {cost} 1 0")
        self.check_bad(2, "house\nhouse\nline 0 1 10000 1 0", "house\nhouse\nline 0 1 99999 1 0",
                       "house\nhouse\nline 0 1 00001 1 0",
                       "house\nhouse\nline 0 1 " + "9" * 100 + " 1 0", "house\nhouse\nline 0 1 1 1 00000")

    def test_groups(self):
        self.check_good((((0, 1, 2, 3, 4, 5, 6, 7),), ()), "house 0 1 2 3 4 5 6 7")
        self.check_bad(0, "house 8", "house 7 8", "house 8 7", "house 10", "house 9999")
        self.check_good((((), ()), ((0, 1, 1, (0, 7), 1),)), "house\nhouse\nline 0 1 1 1 0 7")
        self.check_bad(2, "house\nhouse\nline 0 1 1 1 8", "house\nhouse\nline 0 1 1 1 1 0",
                       "house\nhouse\nline 0 1 1 1 0 0",
                       "house\nhouse\nline 0 1 1 1 0 1 1", "house\nhouse\nline 0 1 1 1 7 8")

    def test_strands(self):
        for strands in (1, 2, 3, 4):
            self.check_good((((), ()), ((0, 1, 1, (0,), strands),)), f"house\nhouse\nline 0 1 1 {strands} 0")
        self.check_bad(2, "house\nhouse\nline 0 1 1 0 0", "house\nhouse\nline 0 1 1 5 0",
                       "house\nhouse\nline 0 1 1 10 0")

    def test_costs(self):
        self.check_bad(2, "house\nhouse\nline 0 1 0 1 0")

    def test_ends(self):
        self.check_bad(2, "house\nhouse\nline 0 0 1 1 0", "house\nhouse\nline 1 1 1 1 0",
                       "house\nhouse\nline 1 0 1 1 0",
                       "house\nhouse\nline 0 2 1 1 0", "house\nhouse\nline 2 3 1 1 0",
                       "house\nhouse\nline 0 9999 1 1 0")

    def test_too_few_words_in_a_line(self):
        self.check_bad(2, "house\nhouse\nline", "house\nhouse\nline 0", "house\nhouse\nline 0 1",
                       "house\nhouse\nline 0 1 1",
                       "house\nhouse\nline 0 1 1 1")

    def test_a_line_ahead_of_its_ends(self):
        self.check_bad(0, "line 0 1 1 1 0", "line 0 1 1 1 0\nhouse\nhouse")
        self.check_bad(1, "house\nline 0 1 1 1 0", "house\nline 0 1 1 1 0\nhouse")
        self.check_bad(2, "house\nhouse\nline 1 2 1 1 0\nhouse")

    def test_a_house_behind_a_line(self):
        self.check_bad(3, "house\nhouse\nline 0 1 1 1 0\nhouse",
                       "house\nhouse\nline 0 1 1 1 0\nhouse 0 1\nline 0 2 1 1 0")
        self.check_bad(4, "house\nhouse\nline 0 1 1 1 0\nline 0 1 1 1 0\nhouse")

    def test_two_faults(self):
        self.check_bad(0, "house 00 8", "house 8 ", "hous 8\nhouse 8", "house 8\n\nhouse 9", "line 1 0 0 9")
        self.check_bad(1, "house\nhouse 8\nhouse 9", "house\nline 0 1 1 1 0\nhouse 8", "house\n\n", "house\nhouse 01\n")
        self.check_bad(2, "house\nhouse\nline 1 0 0 5 1 0\nhouse", "house\nhouse\nline 0 1 0 1 0\nhouse 8")

    def test_beyond_the_bounds(self):
        lines = tuple((0, 1 + at % 29, 1 + 300 * at, (0,), 1) for at in range(30))
        weaving = ((tuple(at % 8 for at in range(20)),) * 30, lines)
        self.check_good(weaving, weaving_text(weaving))

    def test_made_ones(self):
        dice = making.Dice(81)
        for case in range(200):
            weaving = making.made_weaving(dice, 12, 20, 99)
            text = weaving_text(weaving)
            self.assertIs(type(text), str)
            self.assertEqual(slowdesk.slow_weaving_from(text), weaving)
            self.check_good(weaving, text)

    def check_otherwise(self, text):
        """It is read as the document says and written so again, or refused with the first row that can't stand."""
        wanted = slowdesk.slow_weaving_from(text)
        self.assertEqual(read(text), wanted, text)
        if type(wanted) is tuple:
            self.assertIs(is_weaving(wanted), True)
            self.assertEqual(weaving_text(read(text)), text)
        return type(wanted) is tuple

    def test_one_sign_otherwise(self):
        told = [0, 0]
        for text in (SAMPLE_TEXT, "house", "house 0 1\nhouse 7\nhouse\nline 0 2 99 4 0 1 7\nline 1 2 1000 1 3"):
            for at in range(len(text) + 1):
                for sign in SIGNS:
                    told[self.check_otherwise(text[:at] + sign + text[at:])] += 1
                    told[self.check_otherwise(text[:at] + sign + text[at + 1:])] += 1
                told[self.check_otherwise(text[:at] + text[at + 1:])] += 1
        self.assertGreater(min(told), 300)

    def test_rows_exchanged_doubled_and_left_out(self):
        rows = SAMPLE_TEXT.split("\n")
        for at in range(len(rows)):
            self.check_otherwise("\n".join(rows[:at] + rows[at + 1:]))
            self.check_otherwise("\n".join(rows[:at] + [rows[at]] + rows[at:]))
            for other in range(at):
                turned = list(rows)
                turned[at], turned[other] = rows[other], rows[at]
                self.check_otherwise("\n".join(turned))

    def test_signs_thrown_together(self):
        dice = making.Dice(82)
        words = ["house", "line", "0", "1", "2", "3", "4", "7", "8", "\n", "\n", "\n", " ", "", "00", "9999", "10000",
                 "x"]
        for case in range(3000):
            parts = [words[dice.below(len(words))] for word in range(dice.below(14))]
            self.check_otherwise(" ".join(parts).replace(" \n ", "\n"))


if __name__ == "__main__":
    unittest.main()
