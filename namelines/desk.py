"""A desk: sheets of rows are read, and a text is told for each deed and ask on them."""

from namelines.errors import BadSheet, Down, NoHouse, NoLine, NoName, NoPlace, NotSo
from namelines.posts import Post
from namelines.spare import apart
from namelines.texts import number_from, put_row
from namelines.trees import tree

# The rows that can stand behind the weaving's: a word, and the kinds of the words behind it. In table and apart
# a house must be there; elsewhere it is a number like any other, and the post refuses it.
FORMS = (
    ("post", "room", "age"),
    ("lay", "name", "number", "number"),
    ("lift", "name"),
    ("send", "name", "name"),
    ("send", "name"),
    ("would", "name", "name"),
    ("would", "name"),
    ("tick", "many"),
    ("fall", "number", "number"),
    ("mend", "number", "number"),
    ("break", "number"),
    ("whole", "number"),
    ("place", "name"),
    ("table", "house"),
    ("tree", "group"),
    ("wrong",),
    ("apart", "group", "house", "house"),
)
BOUNDS = {"room": (1, 40), "age": (1, 500), "many": (0, 500), "group": (0, 7), "number": (0, 9999)}
UNLIKE = ("send", "would", "apart")
MOST_LETTERS = 8


def is_name(word):
    return 1 <= len(word) <= MOST_LETTERS and all(["a" <= sign <= "z" for sign in word])


def part_from(word, kind, many_houses):
    """The name or the number of that kind that a word is, None where it is none."""
    if kind == "name":
        return word if is_name(word) else None
    low, high = (0, many_houses - 1) if kind == "house" else BOUNDS[kind]
    number = number_from(word)
    return number if number is not None and low <= number <= high else None


def deed_from(words, many_houses):
    """The pair (word, parts) that the words of a post, a deed or an ask tell, None where they tell none."""
    for form in FORMS:
        if form[0] == words[0] and len(form) == len(words):
            parts = [part_from(words[at], form[at], many_houses) for at in range(1, len(form))]
            alike = form[0] in UNLIKE and len(parts) > 1 and parts[-1] == parts[-2]
            return None if None in parts or alike else (form[0], parts)
    return None


def put_deed(houses, deeds, words):
    """Whether a deed of these words can stand behind these houses and deeds; where it can, it's put behind them."""
    deed = deed_from(words, len(houses))
    if deed is None or not houses or (not deeds and deed[0] != "post"):
        return False
    deeds.append(deed)
    return True


def sheet_from(text):
    """A pair: a sheet's weaving, and the list of the pairs (word, parts) of its posts, deeds and asks."""
    houses = []
    lines = []
    deeds = []
    rows = text.split("\n")
    for at in range(len(rows)):
        words = rows[at].split(" ")
        if words[0] in ("house", "line"):
            stands = not deeds and put_row(houses, lines, words)
        else:
            stands = rows[at] == "" or put_deed(houses, deeds, words)
        if not stands:
            raise BadSheet(at)
    # No deed stands ahead of a post and no post ahead of a house, so without a deed there's no post.
    if not deeds:
        raise BadSheet(len(rows))
    return ((tuple(houses), tuple(lines)), deeds)


def dotted(things):
    """Tuples as words, their parts parted by points; a stroke where there's none."""
    words = [".".join([str(part) for part in thing]) for thing in things]
    return " ".join(words) if words else "-"


def tell_letter(told):
    came, gone = told
    return f"{dotted(came)} ; {dotted(gone)}"


def tell_lay(post, parts):
    name, house, door = parts
    post.lay(name, house, door)
    return "so"


def tell_lift(post, parts):
    post.lift(parts[0])
    return "so"


def to_of(parts):
    """The name to which a letter goes, None where it goes to all."""
    return parts[1] if len(parts) > 1 else None


def tell_send(post, parts):
    return tell_letter(post.send(parts[0], to_of(parts)))


def tell_would(post, parts):
    return tell_letter(post.would(parts[0], to_of(parts)))


def tell_tick(post, parts):
    return dotted(post.tick(parts[0]))


def tell_fall(post, parts):
    line, number = parts
    return dotted(post.fall(line, number))


def tell_mend(post, parts):
    line, number = parts
    return dotted(post.mend(line, number))


def tell_break(post, parts):
    return dotted(post.break_house(parts[0]))


def tell_whole(post, parts):
    return dotted(post.mend_house(parts[0]))


def tell_place(post, parts):
    place = post.place_of(parts[0])
    return "-" if place is None else f"{place[0]} {place[1]}"


def tell_table(post, parts):
    words = [f"{group} {name} {way[0]} {way[1]} {ago}" for group, name, way, ago in post.entries(parts[0])]
    return "; ".join(words) if words else "-"


def tell_house(part):
    """What the tree tells of one house."""
    if part is None:
        return "-"
    root, far, up = part
    return f"{root}.{far}.-" if up == -1 else f"{root}.{far}.{up}"


def tell_tree(post, parts):
    return " ".join([tell_house(part) for part in tree(post.weaving, post.falls(), parts[0])])


def tell_wrong(post, parts):
    return dotted(post.wrong())


def tell_apart(post, parts):
    group, one, other = parts
    falls = post.falls()
    if one in falls[0] or other in falls[0]:
        return "-"
    strands, ways = apart(post.weaving, falls, group, one, other)
    return str(len(strands))


TELLING = {
    "lay": tell_lay,
    "lift": tell_lift,
    "send": tell_send,
    "would": tell_would,
    "tick": tell_tick,
    "fall": tell_fall,
    "mend": tell_mend,
    "break": tell_break,
    "whole": tell_whole,
    "place": tell_place,
    "table": tell_table,
    "tree": tell_tree,
    "wrong": tell_wrong,
    "apart": tell_apart,
}


def answer(post, word, parts):
    """The text that is told for one deed or ask."""
    action = TELLING[word]
    try:
        return action(post, parts)
    except NoPlace:
        return "refused NoPlace"
    except NoName:
        return "refused NoName"
    except Down:
        return "refused Down"
    except NoLine:
        return "refused NoLine"
    except NoHouse:
        return "refused NoHouse"
    except NotSo:
        return "refused NotSo"


def answers(text):
    """The list with a text for each deed and ask of a sheet."""
    weaving, deeds = sheet_from(text)
    told = []
    post = None
    for word, parts in deeds:
        if word == "post":
            post = Post(weaving, parts[0], parts[1])
        else:
            told.append(answer(post, word, parts))
    return told
