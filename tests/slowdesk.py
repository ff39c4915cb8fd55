"""The document's words of what parts two houses, of texts and of a desk once more, plainly and slowly."""

import copy
import re
from itertools import combinations, product

from namelines import errors
from tests import making

NUMBER = "(0|[1-9][0-9]{0,3})"
NAME = "([a-z]{1,8})"
HOUSE_ROW = re.compile(f"house((?: {NUMBER})*)")
LINE_ROW = re.compile(f"line {NUMBER} {NUMBER} {NUMBER} {NUMBER}((?: {NUMBER})+)")
FORMS = ("post N N", "lay NAME N N", "lift NAME", "send NAME NAME", "send NAME", "would NAME NAME", "would NAME",
         "tick N",
         "fall N N", "mend N N", "break N", "whole N", "place NAME", "table N", "tree N", "wrong", "apart N N N")
ROWS = [re.compile(" ".join({"N": NUMBER, "NAME": NAME}.get(word, word) for word in form.split())) for form in FORMS]


# What parts two houses.

def free_strands(weaving, falls, group):
    lines = making.slow_standing(weaving, falls, group)
    return [strand for strand in making.all_strands(weaving) if strand[0] in lines and strand not in falls[1]]


def slow_parted(weaving, falls, group, one, other, strands):
    """Whether both are in unlike pieces where these strands are fallen as well."""
    more = (falls[0], tuple(sorted(set(falls[1]) | set(strands))))
    return not any({one, other} <= set(piece) for piece in making.slow_pieces(weaving, more, group))


def slow_least(weaving, falls, group, one, other):
    """How many strands part both, found by a look at all sets of strands, small ones first."""
    strands = free_strands(weaving, falls, group)
    for many in range(len(strands) + 1):
        for some in combinations(strands, many):
            if slow_parted(weaving, falls, group, one, other, some):
                return many
    raise AssertionError("all strands together must part two houses")


def slow_rim(weaving, falls, group, one, other):
    """How many strands part both, found by a look at all sets of houses around one of them."""
    strands, least = free_strands(weaving, falls, group), None
    rest = [house for house in range(len(weaving[0])) if house not in (one, other)]
    for choice in product((False, True), repeat=len(rest)):
        near = {one} | {house for house, inside in zip(rest, choice) if inside}
        many = sum(1 for line, number in strands if len(near & set(weaving[1][line][:2])) == 1)
        least = many if least is None else min(least, many)
    return least


def slow_shows_parting(weaving, falls, group, one, other, thing):
    written = [repr(strand) for strand in free_strands(weaving, falls, group)]
    if type(thing) is not list or any(repr(part) not in written for part in thing):
        return False
    return thing == sorted(set(thing)) and slow_parted(weaving, falls, group, one, other, thing)


def slow_shows_ways(weaving, falls, group, one, other, thing):
    written = [repr(strand) for strand in free_strands(weaving, falls, group)]
    if type(thing) is not list or any(type(way) is not list or way == [] for way in thing):
        return False
    used = [repr(strand) for way in thing for strand in way]
    if any(word not in written for word in used) or len(used) != len(set(used)):
        return False
    return all(slow_leads(weaving, one, other, way) for way in thing)


def slow_leads(weaving, one, other, way):
    for line, number in way:
        if one not in weaving[1][line][:2]:
            return False
        one = sum(weaving[1][line][:2]) - one
    return one == other


def slow_weakest(weaving, falls, group):
    now = making.slow_pieces(weaving, falls, group)
    return [strand for strand in free_strands(weaving, falls, group)
            if making.slow_pieces(weaving, (falls[0], tuple(sorted(falls[1] + (strand,)))), group) != now]


# Texts.

def slow_row(houses, lines, row):
    """The house or the line that a row tells where it stands behind these, None where it can't."""
    found = HOUSE_ROW.fullmatch(row)
    if found:
        house = tuple(int(word) for word in found[1].split())
        return house if not lines and making.slow_is_weaving(((house,), ())) else None
    found = LINE_ROW.fullmatch(row)
    if found:
        one, other, cost, strands = (int(found[at]) for at in (1, 2, 3, 4))
        line = (one, other, cost, tuple(int(word) for word in found[5].split()), strands)
        return line if making.slow_is_weaving((tuple(houses), (line,))) else None
    return None


def slow_weaving_from(text):
    """The weaving, or the number of the first row that can't stand."""
    houses, lines = [], []
    for at, row in enumerate(text.split("\n")):
        part = slow_row(houses, lines, row)
        if part is None:
            return at
        (houses if row.startswith("house") else lines).append(part)
    return (tuple(houses), tuple(lines))


# A desk.

def slow_deed(row, many_houses):
    """The words of a row that can stand behind a post, numbers as numbers, None where it can't."""
    found = [form.fullmatch(row) for form in ROWS if form.fullmatch(row)]
    if not found:
        return None
    word = row.split(" ")[0]
    parts = [int(part) if part.isdigit() else part for part in found[0].groups()]
    if word == "post" and not (1 <= parts[0] <= 40 and 1 <= parts[1] <= 500):
        return None
    if word == "tick" and parts[0] > 500 or word in ("tree", "apart") and parts[0] > 7:
        return None
    if word == "table" and parts[0] >= many_houses or word == "apart" and max(parts[1:]) >= many_houses:
        return None
    if word in ("send",
                "would") and parts[0] == parts[-1] and len(parts) == 2 or word == "apart" and parts[1] == parts[2]:
        return None
    return [word] + parts


def slow_sheet(text):
    """A pair of the weaving and the deeds, or the number of the row that refuses the sheet."""
    rows = text.split("\n")
    houses, lines, deeds = [], [], []
    for at, row in enumerate(rows):
        if row == "":
            continue
        part = slow_row(houses, lines, row)
        if part is not None and not deeds:
            (houses if row.startswith("house") else lines).append(part)
            continue
        deed = slow_deed(row, len(houses))
        if deed is None or not houses or not deeds and deed[0] != "post":
            return at
        deeds.append(deed)
    return ((tuple(houses), tuple(lines)), deeds) if deeds else len(rows)


def words_of(things):
    return " ".join(".".join(map(str, thing)) for thing in things) or "-"


def slow_answer(post, weaving, word, *parts):
    """What is written for a deed; post is a Post or a slow one."""
    if word in ("lay", "lift"):
        getattr(post, word)(*parts)
        return "so"
    if word in ("send", "would"):
        teller = post if word == "send" else copy.deepcopy(post)
        return " ; ".join(words_of(part) for part in teller.send(parts[0], (parts + (None,))[1]))
    if word in ("tick", "wrong", "fall", "mend", "break", "whole"):
        method = {"break": "break_house", "whole": "mend_house"}.get(word, word)
        return words_of(getattr(post, method)(*parts))
    if word == "place":
        return "-" if post.place_of(*parts) is None else "%d %d" % post.place_of(*parts)
    if word == "table":
        return "; ".join("%d %s %s %d %d" % (group, name, *way, ago) for group, name, way,
                         ago in post.entries(*parts)) or "-"
    if word == "tree":
        told = making.slow_tree(weaving, post.falls(), *parts)
        return " ".join("-" if part is None else ".".join(map(str, part)).replace("-1", "-") for part in told)
    if set(post.falls()[0]) & set(parts[1:]):
        return "-"
    return str(slow_rim(weaving, post.falls(), *parts))


def slow_answers(text, make_post):
    """What is told of a sheet, or the number of the row that refuses it."""
    sheet = slow_sheet(text)
    if type(sheet) is int:
        return sheet
    weaving, deeds = sheet
    told, post = [], None
    for word, *parts in deeds:
        if word == "post":
            post = make_post(weaving, *parts)
            continue
        try:
            told.append(slow_answer(post, weaving, word, *parts))
        except errors.LineError as refusal:
            told.append("refused " + type(refusal).__name__)
    return told
