"""The document's words of tables and posts once more, plainly and slowly, and what tests of both share."""

from namelines import errors
from tests import making

NAMES = ("a", "b", "c", "zz", "house", "abcdefgh")


class SlowTable:
    """Entries are rows [tick, group, name, way] in one list; ticks pass one by one."""

    def __init__(self, room, age):
        self.room, self.age, self.clock, self.rows = room, age, 0, []

    def out(self, wanted):
        gone = [row for row in self.rows if wanted(row)]
        self.rows = [row for row in self.rows if not wanted(row)]
        return sorted((row[1], row[2]) for row in gone)

    def hear(self, group, name, way):
        told = None
        if not self.out(lambda row: row[1:3] == [group, name]) and len(self.rows) == self.room:
            self.rows.sort()
            told = (self.rows[0][1], self.rows[0][2])
            del self.rows[0]
        self.rows.append([self.clock, group, name, way])
        return told

    def way_of(self, group, name):
        for row in self.rows:
            if row[1:3] == [group, name]:
                return row[3]
        return None

    def forget(self, way):
        return self.out(lambda row: row[3] == way)

    def drop_lines(self, group):
        return self.out(lambda row: row[1] == group and row[3][0] == "line")

    def tick(self, many):
        told = []
        for step in range(many):
            self.clock += 1
            told += self.out(lambda row: row[0] <= self.clock - self.age)
        return sorted(told)

    def entries(self):
        return sorted((group, name, way, self.clock - tick) for tick, group, name, way in self.rows)

    def now(self):
        return self.clock


def slow_strand(sender, to, numbers):
    letters = "abcdefghijklmnopqrstuvwxyz"
    return numbers[sum(letters.index(sign) for sign in sender + (to or "")) % len(numbers)]


def slow_ways(weaving, falls, group, house):
    ups = {part[2] for part in making.slow_tree(weaving, falls, group) if part}
    doors = [("door", door) for door, carried in enumerate(weaving[0][house]) if carried == group]
    return doors + [("line", at) for at, line in enumerate(weaving[1]) if at in ups and house in line[:2]]


def slow_take(table, letter, way, ways):
    group, sender, to = letter
    table.hear(group, sender, way)
    if to is not None and table.way_of(group, to) in ways:
        ways = [table.way_of(group, to)]
    return [other for other in ways if other != way]


class SlowPost:
    def __init__(self, weaving, room, age):
        self.weaving, self.clock = weaving, 0
        self.tables = [SlowTable(room, age) for house in weaving[0]]
        self.lying, self.down, self.cut = {}, set(), set()

    def falls(self):
        return (tuple(sorted(self.down)), tuple(sorted(self.cut)))

    def lay(self, name, house, door):
        if house not in range(len(self.weaving[0])) or door not in range(len(self.weaving[0][house])):
            raise errors.NoPlace("")
        self.lying[name] = (house, door)

    def lift(self, name):
        if self.lying.pop(name, None) is None:
            raise errors.NoName("")

    def place_of(self, name):
        return self.lying.get(name)

    def send(self, sender, to):
        if sender not in self.lying:
            raise errors.NoName("")
        house, door = self.lying[sender]
        if house in self.down:
            raise errors.Down("")
        group = self.weaving[0][house][door]
        came, gone, handed = set(), [], [(house, ("door", door))]
        for house, way in handed:
            ways = slow_ways(self.weaving, self.falls(), group, house)
            for kind, at in slow_take(self.tables[house], (group, sender, to), way, ways):
                if kind == "line":
                    whole = [number for number in range(self.weaving[1][at][4]) if (at, number) not in self.cut]
                    gone.append((at, slow_strand(sender, to, whole), house))
                    handed.append((sum(self.weaving[1][at][:2]) - house, (kind, at)))
                else:
                    came.add((house, at))
        return (sorted(came), gone)

    def trees(self):
        return {group: making.slow_tree(self.weaving, self.falls(), group) for group in self.groups()}

    def groups(self):
        carried = [house for house in self.weaving[0]] + [line[3] for line in self.weaving[1]]
        return sorted(set(sum(carried, ())))

    def turn(self, fallen, thing, falls, refusal, there):
        """Of a house or a strand: it is fallen from now on, or whole."""
        if not there:
            raise refusal("")
        if (thing in fallen) == falls:
            raise errors.NotSo("")
        ahead = self.trees()
        fallen ^= {thing}
        if fallen is self.down:
            self.tables[thing].rows = []
        told = []
        for group, now in self.trees().items():
            if now != ahead[group] or fallen is self.down:
                for house, table in enumerate(self.tables):
                    table.drop_lines(group)
                rows = making.slow_rows(self.weaving, self.falls(), group, len(self.weaving[0]) + 2)
                told.append((group, rows.index(rows[-1]) + 1))
        return told

    def fall(self, line, number, falls=True):
        there = (line, number) in making.all_strands(self.weaving)
        return self.turn(self.cut, (line, number), falls, errors.NoLine, there)

    def mend(self, line, number):
        return self.fall(line, number, False)

    def break_house(self, house, falls=True):
        return self.turn(self.down, house, falls, errors.NoHouse, house in range(len(self.weaving[0])))

    def mend_house(self, house):
        return self.break_house(house, False)

    def tick(self, many):
        self.clock += many
        return [(house,) + pair for house, table in enumerate(self.tables) for pair in table.tick(many)]

    def now(self):
        return self.clock

    def entries(self, house):
        return self.tables[house].entries()

    def is_right(self, house, group, name, way):
        home, door = self.lying.get(name, (None, None))
        if home is None or self.weaving[0][home][door] != group:
            return False
        lines = making.slow_way(self.weaving, self.falls(), group, house, home)
        if home == house:
            return lines == [] and way == ("door", door)
        return lines is not None and way == ("line", lines[0])

    def wrong(self):
        return [(house, group, name) for house in range(len(self.tables))
                for group, name, way, ago in self.entries(house) if not self.is_right(house, group, name, way)]


def state(post, many_houses, names=NAMES):
    """All that can be asked of a post, but what it would send."""
    tables = [post.entries(house) for house in range(many_houses)]
    return (tables, post.falls(), post.now(), [post.place_of(name) for name in names], post.wrong())


def outcome(deed, *arguments):
    """What a deed tells, or the class of its refusal."""
    try:
        return deed(*arguments)
    except errors.LineError as refusal:
        return type(refusal)


def thrown_deed(dice, weaving, names=NAMES):
    """The name and the arguments of a deed; now and then one that must be refused."""
    many = len(weaving[0])
    name, other = names[dice.below(len(names))], names[dice.below(len(names))]
    house, line = dice.below(many + 1) - dice.below(2), dice.below(len(weaving[1]) + 1) - (dice.below(8) == 0)
    kind = dice.below(20)
    if kind < 4:
        return "lay", (name, house, dice.below(3) - (dice.below(8) == 0))
    if kind < 13:
        return "send", (name, None if other == name else other)
    if kind < 15:
        return ("fall", "mend")[dice.below(2)], (line, dice.below(4))
    if kind < 17:
        return "tick", ((0, 1, 1, 2, 3, 7)[dice.below(6)],)
    if kind < 18 and dice.below(2):
        return ("lift", (name,))
    return ("mend_house" if dice.below(3) else "break_house", (house,))
