"""How many texts there are of each part of a grammar.

A row is a list: at each index the number of texts of this length, up to the greatest length that is asked for; what
is missing at its end is 0. If no limit is given, lengths are not looked at: a row has one number at most, that of all
texts.
"""

from soonknown.lengths import name_length

POWERS = (1, 10, 100, 1000, 10000, 100000, 1000000, 10000000, 100000000, 1000000000, 10000000000)


def common_size(least, greatest, low, high):
    """Return how many integers two ranges have in common."""
    return max(0, min(greatest, high) - max(least, low) + 1)


def integer_pairs(least, greatest):
    """Return pairs of a length and how many integers of a range have it."""
    found = []
    for size in range(1, len(POWERS)):
        low = POWERS[size - 1] if size > 1 else 0
        high = POWERS[size] - 1
        found.append((size, common_size(least, greatest, low, high)))
        found.append((size + 1, common_size(least, greatest, -high, -max(low, 1))))
    return found


def text_pairs(letters, least, greatest):
    """Return pairs of a length and how many strings of these letters have it, for strings of least to greatest."""
    return [(size, letters ** size) for size in range(0, 13) if least <= size <= greatest]


def times(first, second, size):
    """Return the row of all texts of one row followed by one of another row, cut to a size."""
    size = min(size, len(first) + len(second) - 1)
    # The work goes with the entries that are not 0 of the first row.
    if len(first) - first.count(0) > len(second) - second.count(0):
        first, second = second, first
    found = [0] * size
    for at, many in enumerate(first[:size]):
        if many != 0:
            for step, more in enumerate(second[:size - at]):
                found[at + step] += many * more
    return found


def total(first, second):
    """Return the row of two rows of different texts together."""
    if len(first) < len(second):
        first, second = second, first
    found = list(first)
    for at, many in enumerate(second):
        found[at] += many
    return found


class Tallies:
    """The rows of the parts of a grammar up to a limit; None if lengths are not looked at."""

    def __init__(self, grammar, limit):
        self.grammar = grammar
        self.limit = limit
        self.width = 1 if limit is None else limit + 1
        self.kept_rows = {}
        self.kept_bodies = {}

    def row(self, number):
        """Return the row of a part; for a rest without what stands behind its container."""
        if number not in self.kept_rows:
            self.kept_rows[number] = self.worked_out(self.grammar.parts[number], number)
        return self.kept_rows[number]

    def worked_out(self, part, number):
        """Return the row of a part that has not been kept yet."""
        form = part[0]
        if form == "integer":
            return self.row_of(integer_pairs(part[1], part[2]))
        if form == "words":
            return self.row_of([(len(word), 1) for word in part[1]])
        if form == "text":
            _, start, letters, least, greatest = part
            pairs = text_pairs(len(letters), least - len(start), greatest - len(start))
            return self.row_of([(len(start) + size + 2, many) for size, many in pairs])
        if form == "either":
            found = []
            for alternative in part[1]:
                found = total(found, self.row(alternative))
            return found
        if form == "items" or form == "members":
            return self.moved(self.body(number), 1)
        return self.container(number)

    def row_of(self, pairs):
        """Return the row of pairs of a length and a number of texts."""
        found = [0] * self.width
        for size, many in pairs:
            at = 0 if self.limit is None else size
            if at < self.width:
                found[at] += many
        return found

    def moved(self, row, length):
        """Return the row of the texts of a row with so many characters more."""
        return row if self.limit is None else ([0] * length + row)[:self.width]

    def container(self, number):
        """Return the row of a list or a record."""
        body = list(self.body(number))
        if not self.grammar.may_end(number):
            return self.moved(body, 1)
        # Between the brackets of an empty one there is nothing, so it has no character for each part to count.
        body[0] -= 1
        return total(self.moved(body, 1), self.row_of([(2, 1)]))

    def body(self, number):
        """Return the row of what stands in a container, with one character more for each item or member."""
        if number not in self.kept_bodies:
            part = self.grammar.parts[number]
            is_list = part[0] == "list" or part[0] == "items"
            self.kept_bodies[number] = self.items_body(number) if is_list else self.members_body(part[1])
        return self.kept_bodies[number]

    def items_body(self, number):
        """Return the body of a list or of the rest of one."""
        found = [1] if self.grammar.may_end(number) else []
        if self.grammar.parts[number][4] == 0:
            return found
        item = self.moved(self.row(self.grammar.head(number)), 1)
        return total(found, times(item, self.body(self.grammar.behind(number)), self.width))

    def members_body(self, members):
        """Return the body of members."""
        if members == ():
            return [1]
        first = self.first_to_count(members)
        dependents = self.grammar.dependents(members, first[0])
        others = tuple([member for member in members if member != first and member not in dependents])
        rest = self.body(self.grammar.numbered(("members", others)))
        return times(self.member_row(first, dependents), rest, self.width)

    def first_to_count(self, members):
        """Return the member that is counted first: one that depended on a value that is known now, if there is one.

        What is left then is the same for all values, so that it is counted only once.
        """
        plain = [member for member in members if self.grammar.source_of(member[1]) == ""]
        for member in plain:
            if self.is_fixed(self.grammar.parts[member[1]]):
                return member
        return plain[0]

    def is_fixed(self, part):
        """Return whether a part may be what a repeat or a sized is for a known value."""
        if part[0] == "list":
            return part[3] == part[4]
        return part[0] == "words" and len(part[1]) == 1 or part[0] == "integer" and part[1] == part[2]

    def member_row(self, member, dependents):
        """Return the row of a member, and of those that depend on it, with one character more for each of them."""
        name, number, required = member
        found = []
        if dependents == ():
            found = self.moved(self.row(number), 1 + name_length(name))
        else:
            for text in self.grammar.documents_of(number):
                others = self.grammar.numbered(("members", self.grammar.with_value(dependents, name, text)))
                found = total(found, self.moved(self.body(others), 1 + name_length(name) + len(text)))
        return found if required else total(found, [1])
