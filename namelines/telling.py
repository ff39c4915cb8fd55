"""How houses come to their trees by telling one another."""

from namelines.kinds import is_same
from namelines.weavings import steps, whole_houses


def first_row(weaving, falls):
    """What each house tells at first: that it is a root itself."""
    row = [None for house in weaving[0]]
    for house in whole_houses(weaving, falls):
        row[house] = (house, 0, -1)
    return row


def told_by(ahead, row, house):
    """What a house tells when it looks at a row; ahead is what steps tells."""
    choices = [(house, 0, -1, -1)]
    for other, line, cost in ahead[house]:
        root, far, up = row[other]
        choices.append((root, far + cost, other, line))
    least = min(choices)
    return (least[0], least[1], least[3])


def row_behind(ahead, row):
    """The row that all whole houses tell at once when they look at a row."""
    return [None if row[house] is None else told_by(ahead, row, house) for house in range(len(row))]


def told_rows(weaving, falls, group):
    """The list of rows, each a list with for each house what it tells, None of a fallen one."""
    ahead = steps(weaving, falls, group)
    rows = [first_row(weaving, falls)]
    row = row_behind(ahead, rows[0])
    while row != rows[-1]:
        rows.append(row)
        row = row_behind(ahead, row)
    return rows


def shows_rows(weaving, falls, group, thing):
    """Whether a thing is what told_rows tells."""
    return is_same(thing, told_rows(weaving, falls, group))
