"""A post: the houses of a weaving with their tables, the names that lie at their doors, and what is fallen."""

from namelines.errors import Down, NoHouse, NoLine, NoName, NoPlace, NotSo
from namelines.handing import strand_of, take, ways_at
from namelines.kinds import is_number_below
from namelines.tables import Table
from namelines.telling import told_rows
from namelines.trees import tree, way_in
from namelines.weavings import group_at, groups_of, is_place, is_strand, other_end, whole_houses, whole_strands


def with_one(things, thing):
    """A rising tuple with one thing more."""
    return tuple(sorted([*things, thing]))


def without(things, thing):
    """A rising tuple with one thing less."""
    return tuple([part for part in things if part != thing])


class Post:
    """All houses of a weaving, and what they have learned."""

    def __init__(self, weaving, room, age):
        self.weaving = weaving
        self.room = room
        self.age = age
        self.tables = [Table(room, age) for house in weaving[0]]
        self.places = {}
        self.fallen = ((), ())

    def lay(self, name, house, door):
        if not is_place(self.weaving, (house, door)):
            raise NoPlace(f"house {house} has no door {door}")
        self.places[name] = (house, door)

    def lift(self, name):
        self.check_lies(name)
        del self.places[name]

    def place_of(self, name):
        """The place at which a name lies, None where it lies nowhere."""
        return self.places.get(name)

    def check_lies(self, name):
        if name not in self.places:
            raise NoName(f"{name} lies nowhere")

    def send(self, sender, to):
        """A tuple (came, gone): where a letter comes to, and what it goes by."""
        self.check_lies(sender)
        home, door = self.places[sender]
        if home in self.fallen[0]:
            raise Down(f"house {home} is fallen")
        letter = (group_at(self.weaving, (home, door)), sender, to)
        came = []
        gone = []
        waiting = [(home, ("door", door))]
        while waiting:
            house, way = waiting.pop(0)
            for kind, number in self.hand_on(letter, house, way):
                if kind == "door":
                    came.append((house, number))
                else:
                    gone.append((number, self.strand_for(letter, number), house))
                    waiting.append((other_end(self.weaving, number, house), ("line", number)))
        return (sorted(came), gone)

    def hand_on(self, letter, house, way):
        """The list of the ways by which a house hands on a letter that comes to it by way."""
        ways = ways_at(self.weaving, self.fallen, letter[0], house)
        return take(self.tables[house], letter, way, ways)

    def strand_for(self, letter, line):
        """The number of the strand by which a letter goes along a line."""
        group, sender, to = letter
        return strand_of(sender, to, whole_strands(self.weaving, self.fallen, line))

    def would(self, sender, to):
        """What send would tell."""
        return self.twin().send(sender, to)

    def fall(self, line, number):
        """What turn_strands tells when a strand falls."""
        self.check_strand(line, number)
        houses, strands = self.fallen
        if (line, number) in strands:
            raise NotSo(f"strand {number} of line {line} is fallen already")
        return self.turn_strands(with_one(strands, (line, number)))

    def mend(self, line, number):
        """What turn_strands tells when a strand is whole again."""
        self.check_strand(line, number)
        houses, strands = self.fallen
        if (line, number) not in strands:
            raise NotSo(f"strand {number} of line {line} is whole already")
        return self.turn_strands(without(strands, (line, number)))

    def break_house(self, house):
        """What turn_houses tells when a house falls."""
        self.check_house(house)
        houses, strands = self.fallen
        if house in houses:
            raise NotSo(f"house {house} is fallen already")
        self.tables[house].lose_all()
        return self.turn_houses(with_one(houses, house))

    def mend_house(self, house):
        """What turn_houses tells when a house is whole again."""
        self.check_house(house)
        houses, strands = self.fallen
        if house not in houses:
            raise NotSo(f"house {house} is whole already")
        return self.turn_houses(without(houses, house))

    def check_strand(self, line, number):
        if not is_strand(self.weaving, (line, number)):
            raise NoLine(f"line {line} has no strand {number}")

    def check_house(self, house):
        if not is_number_below(house, len(self.weaving[0])):
            raise NoHouse(f"there is no house {house}")

    def turn_strands(self, strands):
        """From now on these strands are fallen: what learn_anew tells of the groups with another tree."""
        ahead = self.trees()
        self.fallen = (self.fallen[0], strands)
        behind = self.trees()
        return self.learn_anew([group for group in groups_of(self.weaving) if ahead[group] != behind[group]])

    def turn_houses(self, houses):
        """From now on these houses are fallen: what learn_anew tells of each group."""
        self.fallen = (houses, self.fallen[1])
        return self.learn_anew(groups_of(self.weaving))

    def trees(self):
        """A dict with what tree tells of each group."""
        return {group: tree(self.weaving, self.fallen, group) for group in groups_of(self.weaving)}

    def learn_anew(self, groups):
        """All whole houses forget what they heard by lines in these groups: the list of pairs (group, rows)."""
        for group in groups:
            for house in whole_houses(self.weaving, self.fallen):
                self.tables[house].drop_lines(group)
        return [(group, len(told_rows(self.weaving, self.fallen, group))) for group in groups]

    def falls(self):
        return self.fallen

    def tick(self, many):
        """The rising list of tuples (house, group, name) of what the houses forget when so many ticks have passed."""
        found = []
        for house in range(len(self.tables)):
            for group, name in self.tables[house].tick(many):
                found.append((house, group, name))
        return found

    def now(self):
        # All tables have the same tick, and there is one house at least.
        return self.tables[0].now()

    def entries(self, house):
        """What that house's Table tells of its entries."""
        return self.tables[house].entries()

    def wrong(self):
        """The rising list of tuples (house, group, name) of all entries that aren't right."""
        trees = self.trees()
        found = []
        for house in range(len(self.tables)):
            for group, name, way, ago in self.entries(house):
                if way != self.right_way(trees[group], house, group, name):
                    found.append((house, group, name))
        return found

    def right_way(self, told, house, group, name):
        """The way of a right entry, None where there can be none; told is what tree tells of the group."""
        place = self.place_of(name)
        if place is None or group_at(self.weaving, place) != group:
            return None
        lines = way_in(self.weaving, told, house, place[0])
        if lines is None:
            return None
        return ("line", lines[0]) if lines else ("door", place[1])

    def twin(self):
        other = Post(self.weaving, self.room, self.age)
        other.tables = [table.twin() for table in self.tables]
        other.places = dict(self.places)
        other.fallen = self.fallen
        return other
