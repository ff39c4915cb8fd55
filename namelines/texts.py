"""A weaving's text: a row for each house, then one for each line."""

from namelines.errors import BadRow
from namelines.weavings import are_groups, is_line

MOST_FIGURES = 4


def spaced(word, numbers):
    """A row: a word, and numbers behind it."""
    return " ".join([word, *[str(number) for number in numbers]])


def weaving_text(weaving):
    houses, lines = weaving
    rows = [spaced("house", groups) for groups in houses]
    for one, other, cost, groups, strands in lines:
        rows.append(spaced("line", (one, other, cost, strands, *groups)))
    return "\n".join(rows)


def number_from(word):
    """The number that a word is in plain figures, None where it isn't so written."""
    if len(word) > MOST_FIGURES or not word.isascii() or not word.isdigit():
        return None
    number = int(word)
    # A nought ahead isn't written again.
    return number if str(number) == word else None


def line_of(numbers):
    """The line that the numbers of its row tell, None where they are too few."""
    if len(numbers) < 4:
        return None
    one, other, cost, strands, *groups = numbers
    return (one, other, cost, tuple(groups), strands)


def put_row(houses, lines, words):
    """Whether a row of these words can stand behind these houses and lines; where it can, it's put behind them."""
    # A word that isn't a number is None here, which is no part of a house or a line.
    numbers = [number_from(word) for word in words[1:]]
    if words[0] == "house" and not lines and are_groups(tuple(numbers)):
        houses.append(tuple(numbers))
        return True
    if words[0] == "line" and is_line(line_of(numbers), len(houses)):
        lines.append(line_of(numbers))
        return True
    return False


def weaving_from(text):
    """The weaving of which this is the text."""
    houses = []
    lines = []
    rows = text.split("\n")
    for at in range(len(rows)):
        if not put_row(houses, lines, rows[at].split(" ")):
            raise BadRow(at)
    return (tuple(houses), tuple(lines))
