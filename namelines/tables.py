"""A house's table: by which way each name was heard last. Its room is bounded, and it forgets."""


class Table:
    """The entries of one house, each of a group and a name."""

    def __init__(self, room, age):
        self.room = room
        self.age = age
        self.passed = 0
        # For each pair (group, name) a pair: the way by which it was heard last, and the tick.
        self.heard = {}

    def hear(self, group, name, way):
        """The pair that is put out to make room for the name, None where none is."""
        pair = (group, name)
        out = None if pair in self.heard else self.make_room()
        self.heard[pair] = (way, self.passed)
        return out

    def make_room(self):
        """The pair that is put out of a full table: heard longest ago, of several the least. Else None."""
        # An empty table has none to put out, whatever its room.
        if len(self.heard) < max(self.room, 1):
            return None
        when, out = min([(self.heard[pair][1], pair) for pair in self.heard])
        del self.heard[out]
        return out

    def drop(self, pairs):
        for pair in pairs:
            del self.heard[pair]

    def way_of(self, group, name):
        """The way by which a name was heard last, None without an entry."""
        if (group, name) not in self.heard:
            return None
        return self.heard[(group, name)][0]

    def forget(self, way):
        """The rising list of the pairs whose entries of that way are forgotten."""
        gone = sorted([pair for pair in self.heard if self.heard[pair][0] == way])
        self.drop(gone)
        return gone

    def drop_lines(self, group):
        """The rising list of the pairs whose entries of all lines in that group are forgotten."""
        gone = sorted([pair for pair in self.heard if pair[0] == group and self.heard[pair][0][0] == "line"])
        self.drop(gone)
        return gone

    def lose_all(self):
        self.heard = {}

    def tick(self, many):
        """The rising list of the pairs that are forgotten when so many ticks have passed."""
        self.passed += many
        gone = sorted([pair for pair in self.heard if self.ago(pair) >= self.age])
        self.drop(gone)
        return gone

    def ago(self, pair):
        return self.passed - self.heard[pair][1]

    def entries(self):
        """The rising list of tuples (group, name, way, ago)."""
        return sorted([(pair[0], pair[1], self.heard[pair][0], self.ago(pair)) for pair in self.heard])

    def now(self):
        return self.passed

    def twin(self):
        other = Table(self.room, self.age)
        other.passed = self.passed
        other.heard = {pair: self.heard[pair] for pair in self.heard}
        return other
