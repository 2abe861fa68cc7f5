"""How many documents there are from spots on."""

from soonknown.spots import END
from soonknown.tallies import Tallies, text_pairs


class Supply:
    """The numbers of documents within a limit, from the spots of a grammar on."""

    def __init__(self, ways, limit):
        self.ways = ways
        self.limit = limit
        self.tallies = Tallies(ways.grammar, limit)
        self.kept_spots = {}
        self.kept_rests = {}
        self.kept_rows = {}

    def many(self, spots, read):
        """Return how many documents go on from some spots, if so many characters have been read."""
        room = 0 if self.limit is None else self.limit - read
        return sum([self.many_at(spot, room) for spot in spots])

    def many_at(self, spot, room):
        """Return how many texts of at most so many characters there are from a spot on."""
        # Many characters lead to the same spot, as the letters of a text do.
        key = (spot, room)
        if key not in self.kept_spots:
            self.kept_spots[key] = self.worked_out(spot, room)
        return self.kept_spots[key]

    def worked_out(self, spot, room):
        """Return what many_at returns for a spot that has not been kept yet."""
        found = 0
        for size, many in self.pairs(spot):
            # Without a limit nothing takes room.
            left = room if self.limit is None else room - size
            if left >= 0:
                found = found + many * self.many_behind(spot[-1], left)
        return found

    def many_behind(self, rest, room):
        """Return how many texts of at most so many characters a rest has, with those behind it."""
        if rest == END:
            return 1
        key = (rest, room)
        if key not in self.kept_rests:
            part, behind = self.ways.rests[rest]
            found = [many * self.many_behind(behind, room - size) for size, many in self.row(part) if size <= room]
            self.kept_rests[key] = sum(found)
        return self.kept_rests[key]

    def row(self, part):
        """Return pairs of a length and how many texts of it a part has, where there are any."""
        if part not in self.kept_rows:
            self.kept_rows[part] = [(size, many) for size, many in enumerate(self.tallies.row(part)) if many > 0]
        return self.kept_rows[part]

    def pairs(self, spot):
        """Return pairs of a length and how many texts of it there are up to the end of the value at a spot."""
        form = spot[0]
        if form == "word":
            return [(len(spot[1]), 1)]
        if form == "words":
            return [(len(text), 1) for text in spot[1]]
        if form == "text":
            _, begin, letters, least, greatest, _ = spot
            sizes = text_pairs(len(letters), least - len(begin), greatest - len(begin))
            return [(len(begin) + size + 1, many) for size, many in sizes]
        if form == "digits":
            return [(size, greatest - least + 1) for size, least, greatest in spot[1]]
        if form == "ended":
            return [(0, 1)]
        if form == "name":
            return [(len(spot[1]) + size, many) for size, many in self.row(spot[2])]
        # The first bracket of a list or a record has been read.
        return [(size - 1, many) for size, many in self.row(spot[1])] if form == "opened" else self.row(spot[1])
