"""[16] and [17]: sheets, which rows can stand where, and the text that is told for each deed and ask."""

import unittest

from namelines.desk import answers
from namelines.errors import BadSheet, LineError
from namelines.posts import Post
from namelines.texts import weaving_text
from tests import making, slowdesk
from tests.making import SAMPLE
from tests.slowpost import NAMES, SlowPost, thrown_deed

# Houses 0 and 1 by a line of two strands, 1 and 2 by one of a single strand, all of group 0; group 1 has doors alone.
WEAVING = ["house 0 0 1", "house 0", "house 0 1", "house", "line 0 1 2 2 0", "line 1 2 3 1 0"]
TOP = WEAVING + ["post 40 500"]
SIGNS = "0123456789 \nabhopst-.Z"


def sheet(*rows, top=TOP):
    return "\n".join([*top, *rows])


def told(text):
    """What is told of a sheet, or the number of the row that refuses it."""
    try:
        return answers(text)
    except BadSheet as refusal:
        return refusal.row


class Answers(unittest.TestCase):
    def check(self, *pairs, top=TOP):
        """Pairs of a row and what is told for it."""
        text = sheet(*[row for row, wanted in pairs], top=top)
        self.assertEqual(answers(text), [wanted for row, wanted in pairs])

    def test_no_deed(self):
        self.assertEqual(answers(sheet()), [])
        self.assertEqual(answers("house\npost 1 1"), [])
        self.assertEqual(answers("house\npost 1 1\npost 40 500\npost 2 2"), [])

    def test_lay_lift_place(self):
        self.check(("lay anna 0 1", "so"), ("place anna", "0 1"), ("lay anna 2 0", "so"), ("place anna", "2 0"),
                   ("place bert", "-"), ("lift anna", "so"), ("place anna", "-"), ("lift anna", "refused NoName"))

    def test_send_and_would(self):
        self.check(
            ("lay anna 0 0", "so"), ("lay bert 2 0", "so"), ("lay carl 0 2", "so"),
            ("would anna bert", "0.1 1.0 2.0 ; 0.1.0 1.0.1"), ("table 0", "-"),
            ("send anna bert", "0.1 1.0 2.0 ; 0.1.0 1.0.1"), ("table 2", "0 anna line 1 0"),
            ("would bert anna", "0.0 ; 1.0.2 0.1.1"),
            ("send bert anna", "0.0 ; 1.0.2 0.1.1"),
            ("send anna", "0.1 1.0 2.0 ; 0.0.0 1.0.1"), ("would anna", "0.1 1.0 2.0 ; 0.0.0 1.0.1"),
            ("send carl", "- ; -"), ("would carl anna", "- ; -"))

    def test_places_without_ways_and_ways_without_places(self):
        self.check(("lay a 0 0", "so"), ("lay b 0 1", "so"), ("send a", "0.1 1.0 2.0 ; 0.0.0 1.0.1"),
                   ("send b a", "0.0 ; -"))
        self.check(("lay a 0 0", "so"), ("send a", "- ; 0.0.0"), top=["house 0", "house", "line 0 1 1 1 0", "post 1 1"])

    def test_table(self):
        self.check(("table 3", "-"), ("lay anna 1 0", "so"), ("lay zoe 0 2", "so"),
                   ("send anna", "0.0 0.1 2.0 ; 0.0.1 1.0.1"),
                   ("tick 3", "-"), ("send zoe", "- ; -"), ("table 0", "0 anna line 0 3; 1 zoe door 2 0"),
                   ("table 1", "0 anna door 0 3"), ("table 3", "-"))

    def test_tick_and_wrong(self):
        self.check(("wrong", "-"), ("lay bob 0 0", "so"), ("lay ann 1 0", "so"),
                   ("send bob", "0.1 1.0 2.0 ; 0.0.0 1.0.1"),
                   ("tick 0", "-"), ("tick 1", "-"), ("send ann bob", "0.0 ; 0.0.1"), ("lay bob 2 1", "so"),
                   ("wrong", "0.0.bob 1.0.bob 2.0.bob"), ("tick 1", "0.0.bob 1.0.bob 2.0.bob"), ("wrong", "-"),
                   ("lift ann", "so"), ("wrong", "0.0.ann 1.0.ann"), ("tick 500", "0.0.ann 1.0.ann"), ("tick 500", "-"),
                   top=WEAVING + ["post 9 2"])

    def test_fall_mend_break_whole(self):
        self.check(("fall 0 0", "-"), ("fall 0 1", "0.2"), ("mend 0 0", "0.3"), ("mend 0 1", "-"),
                   ("break 1", "0.1 1.1"), ("fall 1 0", "-"), ("whole 1", "0.2 1.1"), ("mend 1 0", "0.3"))

    def test_tree(self):
        self.check(("tree 0", "0.0.- 0.2.0 0.5.1 3.0.-"), ("tree 1", "0.0.- 1.0.- 2.0.- 3.0.-"),
                   ("tree 7", "0.0.- 1.0.- 2.0.- 3.0.-"),
                   ("break 0", "0.2 1.1"), ("tree 0", "- 1.0.- 1.3.1 3.0.-"), ("break 3", "0.2 1.1"),
                   ("tree 0", "- 1.0.- 1.3.1 -"),
                   ("break 1", "0.1 1.1"), ("break 2", "0.1 1.1"), ("tree 0", "- - - -"))

    def test_apart(self):
        self.check(("apart 0 0 1", "2"), ("apart 0 1 0", "2"), ("apart 0 0 2", "1"), ("apart 0 0 3", "0"),
                   ("apart 1 0 1", "0"),
                   ("apart 7 0 1", "0"), ("fall 0 1", "-"), ("apart 0 0 1", "1"), ("fall 0 0", "0.2"),
                   ("apart 0 0 1", "0"),
                   ("break 2", "0.1 1.1"), ("apart 0 1 2", "-"), ("apart 0 2 1", "-"), ("apart 0 0 1", "0"),
                   ("break 0", "0.1 1.1"),
                   ("apart 0 0 2", "-"), ("apart 0 0 1", "-"))

    def test_refusals_are_told_and_refuse_no_sheet(self):
        self.check(
            ("lay anna 4 0", "refused NoPlace"), ("lay anna 0 3", "refused NoPlace"),
            ("lay anna 3 0", "refused NoPlace"),
            ("lay anna 9999 9999", "refused NoPlace"), ("place anna", "-"), ("lift anna", "refused NoName"),
            ("send anna", "refused NoName"), ("send anna bert", "refused NoName"), ("would anna", "refused NoName"),
            ("would anna bert", "refused NoName"), ("fall 2 0", "refused NoLine"), ("fall 0 2", "refused NoLine"),
            ("fall 9999 0", "refused NoLine"), ("mend 2 0", "refused NoLine"), ("mend 1 1", "refused NoLine"),
            ("mend 0 0", "refused NotSo"), ("fall 0 0", "-"), ("fall 0 0", "refused NotSo"),
            ("break 4", "refused NoHouse"),
            ("break 9999", "refused NoHouse"), ("whole 4", "refused NoHouse"), ("whole 0", "refused NotSo"),
            ("break 0", "0.2 1.1"), ("break 0", "refused NotSo"), ("lay anna 0 0", "so"), ("send anna", "refused Down"),
            ("would anna bert", "refused Down"), ("send bert", "refused NoName"), ("whole 0", "0.3 1.1"),
            ("send anna", "0.1 1.0 2.0 ; 0.1.0 1.0.1"))

    def test_a_refusal_changes_nothing(self):
        rows = ["lay anna 0 0", "send anna", "break 2", "table 0", "tree 0", "wrong", "place anna", "place bert"]
        refused = ["lay anna 9 9", "lift bert", "send bert", "fall 9 9", "mend 0 0", "break 2", "whole 0", "whole 9"]
        classes = ["NoPlace", "NoName", "NoName", "NoLine", "NotSo", "NotSo", "NotSo", "NoHouse"]
        plain = answers(sheet(*rows))
        found = answers(sheet(*rows[:3], *refused, *rows[3:]))
        self.assertEqual(found, plain[:3] + ["refused " + name for name in classes] + plain[3:])

    def test_would_changes_nothing(self):
        rows = ["lay anna 0 0", "lay bert 2 0", "send bert", "table 0", "table 1", "table 2"]
        plain = answers(sheet(*rows))
        asked = answers(sheet(*rows[:3], "would anna", "would anna bert", *rows[3:]))
        self.assertEqual(asked[:3] + asked[5:], plain)

    def test_empty_rows_are_passed_over(self):
        plain = ["lay anna 0 0", "send anna", "table 1"]
        rows = TOP + plain
        wanted = answers("\n".join(rows))
        self.assertEqual(answers("\n\n" + "\n\n\n".join(rows) + "\n\n"), wanted)
        for at in range(len(rows) + 1):
            self.assertEqual(answers("\n".join(rows[:at] + [""] + rows[at:])), wanted)

    def test_room_and_age_are_those_told(self):
        self.check(("lay a 0 0", "so"), ("lay b 0 1", "so"), ("send a", "0.1 1.0 2.0 ; 0.0.0 1.0.1"),
                   ("send b", "0.0 1.0 2.0 ; 0.1.0 1.0.1"),
                   ("table 0", "0 b door 1 0"), ("tick 2", "-"), ("tick 1", "0.0.b 1.0.b 2.0.b"),
                   top=WEAVING + ["post 1 3"])
        self.check(("lay a 0 0", "so"), ("lay b 0 1", "so"), ("send a", "0.1 1.0 2.0 ; 0.0.0 1.0.1"),
                   ("send b", "0.0 1.0 2.0 ; 0.1.0 1.0.1"),
                   ("table 0", "0 a door 0 0; 0 b door 1 0"), ("tick 499", "-"),
                   ("tick 1", "0.0.a 0.0.b 1.0.a 1.0.b 2.0.a 2.0.b"),
                   top=WEAVING + ["post 2 500"])

    def test_several_posts(self):
        ahead = ["lay anna 0 0", "send anna", "tick 3", "break 1", "fall 1 0", "place anna"]
        behind = ["place anna", "tree 0", "table 0", "wrong", "tick 9", "lay bert 1 0", "send bert", "table 0",
                  "apart 0 0 2", "mend 1 0"]
        wanted = answers(sheet(*ahead)) + answers(sheet(*behind))
        self.assertEqual(answers(sheet(*ahead, "post 40 500", *behind)), wanted)
        self.assertEqual(answers(sheet(*ahead, "post 1 1", *ahead, "", "post 40 500", *behind))[len(ahead) * 2:],
                         answers(sheet(*behind)))
        self.assertEqual(answers(sheet("post 3 3", "post 40 500", *behind)), answers(sheet(*behind)))

    def test_names_that_are_words_of_rows(self):
        for name in ("house", "line", "post", "lay", "send", "wrong", "door", "so", "a", "z", "abcdefgh", "zzzzzzzz"):
            self.check((f"lay {name} 0 0", "so"), (f"place {name}", "0 0"),
                       (f"would {name} x", f"0.1 1.0 2.0 ; {self.going(name)}"),
                       (f"send {name}", told(sheet(f"lay {name} 0 0", f"would {name}"))[1]),
                       ("table 0", f"0 {name} door 0 0"),
                       ("tick 500", f"0.0.{name} 1.0.{name} 2.0.{name}"), (f"lift {name}", "so"))

    def going(self, name):
        strand = sum(ord(sign) - 97 for sign in name + "x") % 2
        return f"0.{strand}.0 1.0.1"

    def test_asked_again(self):
        text = sheet("lay anna 0 0", "send anna", "table 1", "apart 0 0 1", "tree 0")
        one, other = answers(text), answers(text)
        self.assertEqual(one, other)
        self.assertIsNot(one, other)
        one.clear()
        self.assertEqual(answers(text), other)
        self.assertIs(type(other), list)
        self.assertTrue(all(type(part) is str for part in other))


class Refused(unittest.TestCase):
    def check_bad(self, row, *texts):
        for text in texts:
            with self.subTest(text=text):
                with self.assertRaises(LineError) as caught:
                    answers(text)
                self.assertIs(type(caught.exception), BadSheet)
                self.assertEqual(caught.exception.row, row)
                self.assertIs(type(caught.exception.row), int)

    def check_rows(self, *rows):
        """Each is refused behind the post, and where good rows stand around it and other bad ones behind it."""
        for row in rows:
            self.check_bad(len(TOP), sheet(row), sheet(row, "wrong"), sheet(row, "nonsense"))
            self.check_bad(len(TOP) + 3, sheet("", "lay anna 0 0", "send anna", row, "tick 1", row))

    def check_good(self, *rows):
        for row in rows:
            with self.subTest(row):
                self.assertEqual(len(answers(sheet(row))), 1)

    def test_no_house_and_no_post(self):
        self.check_bad(1, "", "house", "house 0 7")
        self.check_bad(2, "\n", "house\n", "\nhouse", "house\nhouse")
        self.check_bad(3, "\n\n", "house\n\n", "house\nhouse\nline 0 1 1 1 0", "\nhouse\n")
        self.check_bad(len(WEAVING), "\n".join(WEAVING))

    def test_a_post_ahead_of_all_houses(self):
        self.check_bad(0, "post 1 1", "post 1 1\nhouse", "post 1 1\nhouse\npost 1 1")
        self.check_bad(2, "\n\npost 1 1\nhouse\npost 1 1")

    def test_other_rows_ahead_of_the_first_post(self):
        for row in ("lay a 0 0", "lift a", "send a b", "send a", "would a b", "would a", "tick 1", "fall 0 0",
                    "mend 0 0", "break 0",
                    "whole 0", "place a", "table 0", "tree 0", "wrong", "apart 0 0 1"):
            self.check_bad(0, row, row + "\nhouse\npost 1 1")
            self.check_bad(2, "house\nhouse\n" + row, "house\nhouse\n" + row + "\npost 1 1")
            self.check_bad(4, "house\nhouse\nline 0 1 1 1 0\n\n" + row + "\npost 1 1")
            self.assertEqual(len(answers("house\nhouse\npost 1 1\n" + row)), 1)

    def test_houses_and_lines_behind_a_post(self):
        self.check_rows("house", "house 0", "line 0 1 1 1 0", "line 0 2 1 1 0", "house 8", "line")

    def test_what_weaving_from_refuses(self):
        for rows in (["house 8"], ["house "], ["house 01"], ["house", "line 0 1 1 1 0"],
                     ["house", "house", "line 1 0 1 1 0"],
                     ["house", "house", "line 0 1 1 1 0", "house"], ["hous"],
                     ["house", "house", "line 0 1 10000 1 0"], [" "],
                     ["house", "house", "line 0 1 1 1"], ["house", "house", "line 0 1 1 5 0"], ["house", "House"]):
            self.check_bad(len(rows) - 1, "\n".join(rows), "\n".join(rows + ["post 1 1"]),
                           "\n".join(rows + ["house 8", "nonsense"]))
            self.check_bad(len(rows) + 1, "\n\n" + "\n".join(rows + ["post 1 1"]))

    def test_blanks(self):
        self.check_rows(" ", "  ", " wrong", "wrong ", "tick  1", "tick 1 ", " tick 1", "lay anna  0 0", "send anna ",
                        "lay anna 0 0 ")
        self.check_bad(1, "house\n post 1 1", "house\npost 1 1 ", "house\npost  1 1", "house\n \npost 1 1")

    def test_other_words(self):
        self.check_rows("nonsense", "Lay anna 0 0", "LIFT anna", "sent anna", "ticks 1", "-", "0", "mend_house 0",
                        "break_house 0",
                        "now", "falls", "entries 0", "tree", "wrong\t", "tick\t1", "tick 1\r", "refused NoName",
                        "room 1 1")

    def test_too_few_and_too_many_words(self):
        self.check_rows("post", "post 1", "post 1 1 1", "lay", "lay anna", "lay anna 0", "lay anna 0 0 0", "lift",
                        "lift anna bert", "send",
                        "send a b c", "would", "would a b c", "tick", "tick 1 1", "fall", "fall 0", "fall 0 0 0",
                        "mend", "mend 0", "mend 0 0 0",
                        "break", "break 0 0", "whole", "whole 0 0", "place", "place a b", "table", "table 0 0",
                        "tree", "tree 0 0", "wrong 0",
                        "wrong wrong", "apart", "apart 0", "apart 0 0", "apart 0 0 1 2")

    def test_room_and_age(self):
        for row in ("post 1 1", "post 40 500", "post 40 1", "post 1 500"):
            self.assertEqual(answers(sheet(row)), [])
            self.assertEqual(answers("house\n" + row), [])
        bad = ("post 0 1", "post 1 0", "post 41 1", "post 1 501", "post 500 40", "post -1 1", "post 1 -1", "post a 1",
               "post 1 a", "post 01 1",
               "post 1 01", "post 10000 1", "post 1 10000", "post 9999 1", "post 1 9999", "post 1 1.", "post +1 1")
        self.check_rows(*bad)
        for row in bad:
            self.check_bad(1, "house\n" + row, "house\n" + row + "\npost 1 1")

    def test_many_ticks(self):
        self.check_good("tick 0", "tick 1", "tick 499", "tick 500")
        self.check_rows("tick 501", "tick 9999", "tick 10000", "tick -1", "tick 00", "tick 01", "tick 0500", "tick a",
                        "tick 1.0")

    def test_names(self):
        for name in ("a", "z", "abcdefgh", "zzzzzzzz", "post", "house"):
            self.check_good(f"lay {name} 0 0", f"lift {name}", f"send {name}", f"would {name}", f"place {name}",
                            f"send {name} x", f"send x {name}")
        for name in ("A", "Anna", "annA", "abcdefghi", "a1", "1", "a-b", "a.b", "a_b", "-", "anna,", "{", "`",
                     "\u00e4", "a\t"):
            self.check_rows(f"lay {name} 0 0", f"lift {name}", f"send {name}", f"send {name} x", f"send x {name}",
                            f"would {name}",
                            f"would {name} x", f"would x {name}", f"place {name}")

    def test_names_alike(self):
        self.check_rows("send a a", "would a a", "send anna anna", "would abcdefgh abcdefgh")
        self.check_good("send a aa", "would aa a", "send a b")

    def test_numbers(self):
        good = ("0", "1", "9", "10", "999", "1000", "9999")
        bad = ("10000", "99999", "00", "01", "0001", "00000", "-1", "-0", "+1", "a", "1a", "1.0", "1_0", "0x1", "~",
               "\u0663", "\u00b2")
        for form in ("lay a N 0", "lay a 0 N", "fall N 0", "fall 0 N", "mend N 0", "mend 0 N", "break N", "whole N"):
            self.check_good(*[form.replace("N", number) for number in good])
            self.check_rows(*[form.replace("N", number) for number in bad])
        for form in ("table N", "tree N", "apart N 0 1", "apart 0 N 1", "apart 0 1 N", "tick N"):
            self.check_rows(*[form.replace("N", number) for number in bad])

    def test_groups(self):
        self.check_good("tree 0", "tree 7", "apart 0 0 1", "apart 7 0 1")
        self.check_rows("tree 8", "tree 10", "tree 9999", "apart 8 0 1", "apart 9999 0 1")

    def test_houses_that_there_are_not(self):
        self.check_good("table 0", "table 3", "apart 0 0 3", "apart 0 3 0")
        self.check_rows("table 4", "table 9999", "apart 0 0 4", "apart 0 4 0", "apart 0 9999 0", "apart 0 4 5",
                        "apart 8 4 4")

    def test_houses_alike(self):
        self.check_rows("apart 0 0 0", "apart 0 3 3", "apart 1 1 1", "apart 0 4 4")
        self.check_good("apart 1 0 1", "apart 0 1 0", "apart 1 1 0", "apart 3 3 0")
        self.assertEqual(len(answers(sheet("fall 0 0", "lay a 0 0", "mend 1 1"))), 3)
        self.assertEqual(answers(sheet("post 2 2")), [])

    def test_ahead_of_all_answers(self):
        self.check_bad(len(TOP) + 2, sheet("lay anna 0 0", "send anna", "nonsense"),
                       sheet("lay anna 9 0", "lift x", "tick 501", "tick 1"))

    def test_the_first_of_several_rows_goes(self):
        self.check_bad(1, "house\nhouse 8\nnonsense\npost 0 0")
        self.check_bad(2, "house\n\nwrong\nhouse\npost 1 1\nhouse")
        self.check_bad(2, "house\npost 1 1\nhouse 8\ntick 501")

    def test_all_rows_are_counted(self):
        self.check_bad(6, "\n\nhouse\n\npost 1 1\n\nnonsense\n")
        self.check_bad(5, "\n\nhouse\n\n")

    def test_a_sheet_of_many_rows(self):
        rows = ["house 0"] * 12 + [f"line {at} {at + 1} 99 4 0" for at in range(11)]
        rows += ["post 40 500", "lay a 0 0", "lay b 11 0"]
        rows += ["send a b", "send b a", "tick 1", "apart 0 0 11"] * 43
        self.assertLessEqual(len(rows), 200)
        found = answers("\n".join(rows))
        self.assertEqual(len(found), 2 + 4 * 43)
        self.assertEqual(found[-1], "4")


class Beside(unittest.TestCase):
    """Beside a second, slower telling of the document's words."""

    def check(self, text):
        wanted = slowdesk.slow_answers(text, SlowPost)
        self.assertEqual(told(text), wanted, text)
        # What a Post tells for each deed, written as [17] has it.
        self.assertEqual(slowdesk.slow_answers(text, Post), wanted, text)
        return wanted

    def thrown_row(self, dice, weaving):
        """A deed or an ask; now and then one that is refused, or that can't stand."""
        many, kind = len(weaving[0]), dice.below(24)
        if kind < 4:
            return f"table {dice.below(many)}"
        if kind < 6:
            return f"tree {dice.below(5)}"
        if kind < 7:
            return "wrong"
        if kind < 9 and many > 1:
            one = dice.below(many)
            return f"apart {dice.below(3)} {one} {(one + 1 + dice.below(many - 1)) % many}"
        if kind < 10:
            return f"place {NAMES[dice.below(len(NAMES))]}"
        if kind < 11 and dice.below(3) == 0:
            return f"post {1 + dice.below(6)} {1 + dice.below(8)}"
        deed, arguments = thrown_deed(dice, weaving)
        arguments = [abs(part) if type(part) is int else part for part in arguments if part is not None]
        deed = {"break_house": "break", "mend_house": "whole",
                "send": ("send", "send", "would")[dice.below(3)]}.get(deed, deed)
        return " ".join(map(str, [deed, *arguments]))

    def thrown_sheet(self, dice, many):
        weaving = (making.dense_weaving, making.made_weaving)[dice.below(2)](dice)
        rows = weaving_text(weaving).split("\n") + [f"post {1 + dice.below(6)} {1 + dice.below(8)}"]
        for name in NAMES[:4]:
            house = dice.below(len(weaving[0]))
            rows.append(f"lay {name} {house} {dice.below(max(1, len(weaving[0][house])))}")
        return rows + [self.thrown_row(dice, weaving) for row in range(many)]

    def test_thrown_sheets(self):
        dice = making.Dice(91)
        seen = set()
        for case in range(150):
            found = self.check("\n".join(self.thrown_sheet(dice, 40)))
            self.assertIs(type(found), list)
            seen |= {text for text in found if text.startswith("refused")}
        self.assertEqual(seen,
                         {"refused " + word for word in ("NoPlace", "NoName", "Down", "NoLine", "NoHouse", "NotSo")})

    def test_a_later_post_hangs_on_nothing_ahead_of_it(self):
        dice = making.Dice(92)
        for case in range(60):
            rows = self.thrown_sheet(dice, 30)
            at = min(at for at, row in enumerate(rows) if row.startswith("post"))
            top, deeds = rows[:at], rows[at:]
            wanted, start = [], 0
            for end in range(1, len(deeds) + 1):
                if end == len(deeds) or deeds[end].startswith("post"):
                    wanted += answers("\n".join(top + deeds[start:end]))
                    start = end
            self.assertEqual(answers("\n".join(rows)), wanted)
            self.assertEqual(answers("\n".join(rows + deeds))[len(wanted):], wanted)

    def test_one_sign_otherwise(self):
        rows = TOP + ["lay anna 0 0", "lay bert 2 1", "send anna bert", "would bert", "", "tick 50", "fall 0 1",
                      "break 1", "whole 1",
                      "post 4 30", "place anna", "table 3", "tree 7", "wrong", "apart 0 1 2", "lift anna", "mend 0 1"]
        text = "\n".join(rows)
        kinds = {int: 0, list: 0}
        for at in range(len(text) + 1):
            for sign in SIGNS:
                kinds[type(self.check(text[:at] + sign + text[at:]))] += 1
                kinds[type(self.check(text[:at] + sign + text[at + 1:]))] += 1
            kinds[type(self.check(text[:at] + text[at + 1:]))] += 1
        self.assertGreater(min(kinds.values()), 1000)

    def test_rows_exchanged_doubled_and_left_out(self):
        rows = TOP + ["lay anna 0 0", "send anna", "fall 0 1", "break 1", "post 4 30", "table 3", "apart 0 1 2"]
        for at in range(len(rows)):
            self.check("\n".join(rows[:at] + rows[at + 1:]))
            self.check("\n".join(rows[:at] + [rows[at]] + rows[at:]))
            self.check("\n".join(rows[:at]))
            for other in range(at):
                turned = list(rows)
                turned[at], turned[other] = rows[other], rows[at]
                self.check("\n".join(turned))

    def test_words_thrown_together(self):
        dice = making.Dice(93)
        words = "house line post lay lift send would tick fall mend break whole place table tree wrong apart".split()
        more = ["0", "1", "2", "7", "8", "40", "500", "501", "9999", "10000", "00", "a", "b", "abcdefgh", "abcdefghi",
                "B", "", "-"]
        kinds = {int: 0, list: 0}
        for case in range(4000):
            row = [words[dice.below(len(words))]] + [more[dice.below(len(more))] for word in range(dice.below(4))]
            at = dice.below(len(TOP) + 1) if dice.below(3) == 0 else len(TOP)
            kinds[type(self.check("\n".join(TOP[:at] + [" ".join(row)] + TOP[at:])))] += 1
        self.assertGreater(min(kinds.values()), 150)

    def test_sample(self):
        rows = weaving_text(SAMPLE).split("\n") + ["post 3 9", "lay a 0 0", "lay b 3 2", "send a b", "send b a",
                                                   "apart 0 0 3", "break 1",
                                                   "apart 0 0 3", "apart 0 1 3", "tree 0", "table 3", "wrong"]
        self.check("\n".join(rows))


if __name__ == "__main__":
    unittest.main()
